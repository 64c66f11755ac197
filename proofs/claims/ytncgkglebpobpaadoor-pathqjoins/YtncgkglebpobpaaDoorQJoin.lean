/- Plain mathematics: what stands ahead of a query, and behind it, changes no step that was read of it. -/
import Derived.Test.YtncgkglebpobpaaDoorQErr
namespace Go.Proofs.YtncgkglebpobpaaDoor
namespace Q
open L G E S
theorem drop_pre (p q : ByteArray) (i : Nat) : (p ++ q).data.toList.drop (p.size + i) = q.data.toList.drop i := by
  have h : p.data.toList.length = p.size := by simp
  rw [L.app_list, ← h, List.drop_append]
  simp
theorem there_shift (p q : ByteArray) (i : Nat) (t : List UInt8) : thereB (p ++ q) (p.size + i) t = thereB q i t := by
  unfold thereB
  rw [drop_pre]
theorem run_shift (f : UInt8 → Bool) (p q : ByteArray) (i : Nat) : runP f (p ++ q) (p.size + i) = p.size + runP f q i := by
  unfold runP
  rw [drop_pre]
  omega
theorem ext_shift (p q : ByteArray) (i j : Nat) : (p ++ q).extract (p.size + i) (p.size + j) = q.extract i j := by
  apply L.bytes_one
  rw [Lib.extract_data, Lib.extract_data, drop_pre]
  congr 1
  omega
theorem nameF_more : ∀ (f g : Nat) (l : List UInt8), l.length < f → l.length < g → nameF f l = nameF g l
  | 0, _, _, h, _ => by omega
  | _, 0, _, _, h => by omega
  | f + 1, g + 1, l, h1, h2 => by
    unfold nameF
    by_cases hc : l = [] ∨ (nextL l).2 = 0 ∨ partB (nextL l).1 = false
    · rw [if_pos hc, if_pos hc]
    · rw [if_neg hc, if_neg hc]
      have hn : (nextL l).2 ≠ 0 := fun q => hc (Or.inr (Or.inl q))
      have hl : 0 < l.length := List.length_pos_iff.2 (fun q => hc (Or.inl q))
      rw [nameF_more f g (l.drop (nextL l).2) (by rw [List.length_drop]; omega) (by rw [List.length_drop]; omega)]
theorem name_shift (p q : ByteArray) (i : Nat) : nameEnd (p ++ q) (p.size + i) = p.size + nameEnd q i := by
  unfold nameEnd
  rw [drop_pre, nameF_more ((p ++ q).size + 1) (q.size + 1)]
  · omega
  · simp [ByteArray.size_append]; omega
  · simp; omega
/-- A result behind a text of d bytes. -/
def shR {α : Type} (d : Nat) : Except Bad (α × Nat) → Except Bad (α × Nat)
  | .error (z, e) => .error ((d : Int) + z, e)
  | .ok (a, n) => .ok (a, d + n)
theorem value_shift (p q : ByteArray) (i : Nat) : valueQ (p ++ q) (p.size + i) = shR p.size (valueQ q i) := by
  unfold valueQ
  simp only [Nat.add_assoc, there_shift, run_shift, ext_shift, ByteArray.size_append]
  by_cases h1 : thereB q i [34] = false
  · rw [if_pos h1, if_pos h1]
    simp [shR]
  · rw [if_neg h1, if_neg h1]
    by_cases h2 : q.size ≤ runP (notB 34) q (i + 1)
    · rw [if_pos (by omega), if_pos h2]
      simp [shR]
    · rw [if_neg (by omega), if_neg h2]
      by_cases h3 : (undoB true (q.extract (i + 1) (runP (notB 34) q (i + 1)))).2.2 ≠ 0
      · rw [if_pos h3, if_pos h3]
        simp [shR]
      · rw [if_neg h3, if_neg h3]
        simp [shR]
theorem number_shift (p q : ByteArray) (i : Nat) : numberQ (p ++ q) (p.size + i) = shR p.size (numberQ q i) := by
  unfold numberQ
  simp only [there_shift, run_shift, ext_shift]
  by_cases h1 : runP digitB q i = i ∨ 4 < runP digitB q i - i ∨ thereB q i [48] = true
  · rw [if_pos (by rcases h1 with h | h | h; exact Or.inl (by omega); exact Or.inr (Or.inl (by omega)); exact Or.inr (Or.inr h)), if_pos h1]
    simp [shR]
  · rw [if_neg (by rintro (h | h | h); exact h1 (Or.inl (by omega)); exact h1 (Or.inr (Or.inl (by omega))); exact h1 (Or.inr (Or.inr h))), if_neg h1]
    simp [shR]
theorem pred_shift (p q : ByteArray) (i : Nat) : predQ (p ++ q) (p.size + i) = shR p.size (predQ q i) := by
  unfold predQ
  simp only [Nat.add_assoc, there_shift, name_shift, ext_shift, value_shift, number_shift]
  split
  · simp [shR]
  · split
    · split
      · simp [shR]
      · cases valueQ q (i + 7) with
        | error e => obtain ⟨z, e⟩ := e; rfl
        | ok z => obtain ⟨v, n⟩ := z; rfl
    · split
      · rfl
      · split
        · simp [shR]
        · split
          · rfl
          · cases valueQ q (nameEnd q (i + 1) + 1) with
            | error e => obtain ⟨z, e⟩ := e; rfl
            | ok z => obtain ⟨v, n⟩ := z; rfl
theorem preds_shift (p q : ByteArray) : ∀ (f i : Nat) (acc : List Pred), predsF f (p ++ q) (p.size + i) acc = shR p.size (predsF f q i acc)
  | 0, i, acc => rfl
  | f + 1, i, acc => by
    unfold predsF
    simp only [Nat.add_assoc, there_shift, pred_shift]
    split
    · rfl
    · split
      · simp [shR]
      · cases predQ q (i + 1) with
        | error e => obtain ⟨z, e⟩ := e; rfl
        | ok z =>
          obtain ⟨pd, n⟩ := z
          simp only [shR, there_shift]
          split
          · simp
          · have := preds_shift p q f (n + 1) (acc ++ [pd])
            rw [show p.size + n + 1 = p.size + (n + 1) by omega]
            exact this
theorem predsQ_shift (p q : ByteArray) (i : Nat) (s : Step) : predsQ (p ++ q) (p.size + i) s = shR p.size (predsQ q i s) := by
  unfold predsQ
  rw [preds_shift]
  cases predsF 6 q i [] with
  | error e => obtain ⟨z, e⟩ := e; rfl
  | ok z => obtain ⟨l, n⟩ := z; rfl
theorem tested_shift (p q : ByteArray) (i : Nat) (ax : Int) : testedQ (p ++ q) (p.size + i) ax = shR p.size (testedQ q i ax) := by
  unfold testedQ
  simp only [Nat.add_assoc, there_shift, name_shift, ext_shift, predsQ_shift]
  split
  · rfl
  · split
    · rfl
    · split
      · rfl
      · split
        · simp [shR]
        · rfl
theorem axis_shift (p q : ByteArray) (i : Nat) : ∀ l, axisF (p ++ q) (p.size + i) l = ((axisF q i l).1, p.size + (axisF q i l).2)
  | [] => rfl
  | a :: l => by
    unfold axisF
    rw [there_shift]
    split
    · simp [Nat.add_assoc]
    · exact axis_shift p q i l
theorem step_shift (p q : ByteArray) (i : Nat) : stepQ (p ++ q) (p.size + i) = shR p.size (stepQ q i) := by
  unfold stepQ
  simp only [there_shift, axis_shift, tested_shift]
  split
  · simp [shR, Nat.add_assoc]
  · split
    · simp [shR, Nat.add_assoc]
    · rfl
end Q
end Go.Proofs.YtncgkglebpobpaaDoor
