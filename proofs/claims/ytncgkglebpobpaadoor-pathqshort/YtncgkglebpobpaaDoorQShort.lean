/- Plain mathematics: what is written shortly is what it is short for. -/
import Derived.Test.YtncgkglebpobpaaDoorQJoin3
namespace Go.Proofs.YtncgkglebpobpaaDoor
namespace Q
open L G E S
theorem pre_in : ∀ (t x y : List UInt8), t.length ≤ x.length → t.isPrefixOf (x ++ y) = t.isPrefixOf x
  | [], x, y, _ => by cases x <;> cases y <;> rfl
  | c :: t, [], y, h => by simp at h
  | c :: t, d :: x, y, h => by
    simp only [List.cons_append, List.isPrefixOf]
    rw [pre_in t x y (by simpa using h)]
theorem there_in (p q : ByteArray) (k : Nat) (t : List UInt8) (h : k + t.length ≤ p.size) : thereB (p ++ q) k t = thereB p k t := by
  unfold thereB
  rw [drop_app p q k (by omega), pre_in]
  simp
  omega
/-- A parse behind a text of d bytes. -/
def shE (d : Nat) : Except Bad (List Step) → Except Bad (List Step)
  | .error (z, e) => .error ((d : Int) + z, e)
  | .ok l => .ok l
theorem parse_shift (p q : ByteArray) : ∀ (f j : Nat) (acc : List Step), parseF f (p ++ q) (p.size + j) acc = shE p.size (parseF f q j acc)
  | 0, j, acc => rfl
  | f + 1, j, acc => by
    have x2 : (if thereB q (j + 1) [47] = true then p.size + j + 2 else p.size + j + 1) = p.size + (if thereB q (j + 1) [47] = true then j + 2 else j + 1) := by split <;> omega
    unfold parseF
    simp only [app_size, there_shift, Nat.add_assoc]
    by_cases h0 : q.size ≤ j ∧ acc ≠ []
    · rw [if_pos ⟨by omega, h0.2⟩, if_pos h0]; rfl
    · rw [if_neg (by rintro ⟨q1, q2⟩; exact h0 ⟨by omega, q2⟩), if_neg h0]
      by_cases h1 : thereB q j [47] = false
      · rw [if_pos h1, if_pos h1]; simp [shE]
      · rw [if_neg h1, if_neg h1]
        simp only [Nat.add_assoc] at x2
        rw [x2]
        generalize (if thereB q (j + 1) [47] = true then acc ++ [(⟨3, 4, noB, []⟩ : Step)] else acc) = x
        generalize (if thereB q (j + 1) [47] = true then j + 2 else j + 1) = y
        by_cases h2 : 20 ≤ x.length
        · rw [if_pos h2, if_pos h2]; simp [shE]
        · rw [if_neg h2, if_neg h2, step_shift]
          cases stepQ q y with
          | error e => obtain ⟨z, e⟩ := e; rfl
          | ok z =>
            obtain ⟨s, n⟩ := z
            exact parse_shift p q f n (x ++ [s])
theorem parse_fuel {q : ByteArray} : ∀ (f g i : Nat) (acc : List Step), i ≤ q.size → q.size - i < f → q.size - i < g → parseF f q i acc = parseF g q i acc
  | 0, _, _, _, _, h, _ => by omega
  | _, 0, _, _, _, _, h => by omega
  | f + 1, g + 1, i, acc, hi, hf, hg => by
    unfold parseF
    by_cases h0 : q.size ≤ i ∧ acc ≠ []
    · rw [if_pos h0, if_pos h0]
    · rw [if_neg h0, if_neg h0]
      by_cases h1 : thereB q i [47] = false
      · rw [if_pos h1, if_pos h1]
      · rw [if_neg h1, if_neg h1]
        have hi1 := one_le hi h1
        have hy : i + 1 ≤ (if thereB q (i + 1) [47] = true then i + 2 else i + 1) ∧ (if thereB q (i + 1) [47] = true then i + 2 else i + 1) ≤ q.size := by
          split
          · rename_i h2
            have := there_le hi1 h2
            simp only [List.length_cons, List.length_nil] at this
            omega
          · omega
        simp only
        generalize (if thereB q (i + 1) [47] = true then acc ++ [(⟨3, 4, noB, []⟩ : Step)] else acc) = x
        generalize (if thereB q (i + 1) [47] = true then i + 2 else i + 1) = y at *
        by_cases h2 : 20 ≤ x.length
        · rw [if_pos h2, if_pos h2]
        · rw [if_neg h2, if_neg h2]
          have ht := step_told hy.2
          cases hs : stepQ q y with
          | error e => rfl
          | ok z =>
            obtain ⟨s, n⟩ := z
            rw [hs] at ht
            have h3 : y ≤ n := ht.1
            have h4 : n ≤ q.size := ht.2.1
            exact parse_fuel f g n _ h4 (by omega) (by omega)
/-- A step that was read, and then the rest. -/
def contN (q : ByteArray) (acc : List Step) : Except Bad (Step × Nat) → Except Bad (List Step)
  | .error e => .error e
  | .ok (s, n) => parseF (q.size + 1) q n (acc ++ [s])
theorem cont_shift (p q : ByteArray) (f : Nat) (acc : List Step) (r : Except Bad (Step × Nat)) (hr : ∀ s n, r = .ok (s, n) → n ≤ q.size) (hf : q.size < f) : (match shR p.size r with
    | .error e => .error e
    | .ok (s, n) => parseF f (p ++ q) n (acc ++ [s])) = shE p.size (contN q acc r) := by
  cases r with
  | error e => obtain ⟨z, e⟩ := e; rfl
  | ok z =>
    obtain ⟨s, n⟩ := z
    have := hr s n rfl
    show parseF f (p ++ q) (p.size + n) (acc ++ [s]) = _
    rw [parse_shift, parse_fuel f (q.size + 1) n _ this (by omega) (by omega)]
    rfl
theorem preds_stop' {f : Nat} {q : ByteArray} {i : Nat} {acc : List Pred} (h : thereB q i [91] = false) : predsF f q i acc = .ok (acc, i) := by
  cases f with
  | zero => rfl
  | succ f => unfold predsF; rw [if_pos h]
def W1 : ByteArray := ⟨#[47]⟩
def W2 : ByteArray := ⟨#[47, 99, 104, 105, 108, 100, 58, 58]⟩
def W3 : ByteArray := ⟨#[47, 47]⟩
def W4 : ByteArray := ⟨#[47, 100, 101, 115, 99, 101, 110, 100, 97, 110, 116, 45, 111, 114, 45, 115, 101, 108, 102, 58, 58, 110, 111, 100, 101, 40, 41, 47, 99, 104, 105, 108, 100, 58, 58]⟩
theorem stepn_le {q : ByteArray} {i : Nat} (hi : i ≤ q.size) : ∀ s n, stepQ q i = .ok (s, n) → n ≤ q.size := by
  intro s n h
  have := step_told hi
  rw [h] at this
  exact this.2.1
theorem testn_le {q : ByteArray} {i : Nat} (hi : i ≤ q.size) : ∀ s n, testedQ q i 1 = .ok (s, n) → n ≤ q.size := by
  intro s n h
  have := tested_told hi (a := 1) (by decide)
  rw [h] at this
  exact this.2.1
theorem short1 {q : ByteArray} (h : thereB q 0 [47] = false) (hs : 1 + q.size ≤ 200) : parseP (W1 ++ q) = shE 1 (contN q [] (stepQ q 0)) := by
  have z : W1.size = 1 := rfl
  unfold parseP
  rw [if_neg (by rw [app_size, z]; omega), app_size, z]
  have e0 : thereB (W1 ++ q) 0 [47] = true := by rw [there_in _ _ _ _ (by decide)]; rfl
  have e1 : thereB (W1 ++ q) (0 + 1) [47] = false := by
    have := there_shift W1 q 0 [47]
    rw [z] at this
    rw [show 0 + 1 = 1 + 0 from rfl, this]
    exact h
  have e2 : stepQ (W1 ++ q) 1 = shR 1 (stepQ q 0) := step_shift W1 q 0
  have hz := cont_shift W1 q (1 + q.size) [] (stepQ q 0) (stepn_le (Nat.zero_le _)) (by omega)
  rw [z] at hz
  rw [← hz, ← e2]
  conv => lhs; unfold parseF
  rw [if_neg (by simp), if_neg (by rw [e0]; simp), e1]
  simp only [Bool.false_eq_true, if_false, List.length_nil]
  rw [if_neg (by decide)]
  cases stepQ (W1 ++ q) 1 <;> rfl
theorem short3 {q : ByteArray} (hs : 2 + q.size ≤ 200) : parseP (W3 ++ q) = shE 2 (contN q [⟨3, 4, noB, []⟩] (stepQ q 0)) := by
  have z : W3.size = 2 := rfl
  unfold parseP
  rw [if_neg (by rw [app_size, z]; omega), app_size, z]
  have e0 : thereB (W3 ++ q) 0 [47] = true := by rw [there_in _ _ _ _ (by decide)]; rfl
  have e1 : thereB (W3 ++ q) (0 + 1) [47] = true := by rw [there_in _ _ _ _ (by decide)]; rfl
  have e2 : stepQ (W3 ++ q) 2 = shR 2 (stepQ q 0) := step_shift W3 q 0
  have hz := cont_shift W3 q (2 + q.size) [⟨3, 4, noB, []⟩] (stepQ q 0) (stepn_le (Nat.zero_le _)) (by omega)
  rw [z] at hz
  rw [← hz, ← e2]
  conv => lhs; unfold parseF
  rw [if_neg (by simp), if_neg (by rw [e0]; simp), e1]
  simp only [if_true, List.nil_append, List.length_singleton]
  rw [if_neg (by decide)]
  cases stepQ (W3 ++ q) 2 <;> rfl
theorem short2 {q : ByteArray} (hs : 8 + q.size ≤ 200) : parseP (W2 ++ q) = shE 8 (contN q [] (testedQ q 0 1)) := by
  have z : W2.size = 8 := rfl
  unfold parseP
  rw [if_neg (by rw [app_size, z]; omega), app_size, z]
  have e0 : thereB (W2 ++ q) 0 [47] = true := by rw [there_in _ _ _ _ (by decide)]; rfl
  have e1 : thereB (W2 ++ q) (0 + 1) [47] = false := by rw [there_in _ _ _ _ (by decide)]; rfl
  have e2 : stepQ (W2 ++ q) 1 = shR 8 (testedQ q 0 1) := by
    have e3 : axisF (W2 ++ q) 1 axes = (1, 8) := by
      unfold axes axisF
      rw [there_in _ _ _ _ (by decide), if_pos (by rfl)]
      rfl
    unfold stepQ
    rw [there_in _ _ _ _ (by decide), there_in _ _ _ _ (by decide), if_neg (by decide +kernel), if_neg (by decide +kernel), e3]
    exact tested_shift W2 q 0 1
  have hz := cont_shift W2 q (8 + q.size) [] (testedQ q 0 1) (testn_le (Nat.zero_le _)) (by omega)
  rw [z] at hz
  rw [← hz, ← e2]
  conv => lhs; unfold parseF
  rw [if_neg (by simp), if_neg (by rw [e0]; simp), e1]
  simp only [Bool.false_eq_true, if_false, List.length_nil]
  rw [if_neg (by decide)]
  cases stepQ (W2 ++ q) 1 <;> rfl
theorem short4 {q : ByteArray} (hs : 35 + q.size ≤ 200) : parseP (W4 ++ q) = shE 35 (contN q [⟨3, 4, noB, []⟩] (testedQ q 0 1)) := by
  have z : W4.size = 35 := rfl
  unfold parseP
  rw [if_neg (by rw [app_size, z]; omega), app_size, z]
  have e0 : thereB (W4 ++ q) 0 [47] = true := by rw [there_in _ _ _ _ (by decide)]; rfl
  have e1 : thereB (W4 ++ q) (0 + 1) [47] = false := by rw [there_in _ _ _ _ (by decide)]; rfl
  have e2 : stepQ (W4 ++ q) 1 = .ok (⟨3, 4, noB, []⟩, 27) := by
    have e3 : axisF (W4 ++ q) 1 axes = (3, 21) := by
      unfold axes axisF
      rw [there_in _ _ _ _ (by decide), if_neg (by decide +kernel)]
      unfold axisF
      rw [there_in _ _ _ _ (by decide), if_neg (by decide +kernel)]
      unfold axisF
      rw [there_in _ _ _ _ (by decide), if_pos (by decide +kernel)]
      rfl
    unfold stepQ
    rw [there_in _ _ _ _ (by decide), there_in _ _ _ _ (by decide), if_neg (by decide +kernel), if_neg (by decide +kernel), e3]
    unfold testedQ
    simp only
    rw [there_in _ _ _ _ (by decide), there_in _ _ _ _ (by decide), there_in _ _ _ _ (by decide), if_neg (by decide +kernel), if_neg (by decide +kernel), if_pos (by decide +kernel)]
    unfold predsQ
    rw [preds_stop' (by rw [there_in _ _ _ _ (by decide)]; decide +kernel)]
  have f0 : thereB (W4 ++ q) 27 [47] = true := by rw [there_in _ _ _ _ (by decide)]; decide +kernel
  have f1 : thereB (W4 ++ q) (27 + 1) [47] = false := by rw [there_in _ _ _ _ (by decide)]; decide +kernel
  have f2 : stepQ (W4 ++ q) 28 = shR 35 (testedQ q 0 1) := by
    have e3 : axisF (W4 ++ q) 28 axes = (1, 35) := by
      unfold axes axisF
      rw [there_in _ _ _ _ (by decide), if_pos (by decide +kernel)]
      rfl
    unfold stepQ
    rw [there_in _ _ _ _ (by decide), there_in _ _ _ _ (by decide), if_neg (by decide +kernel), if_neg (by decide +kernel), e3]
    exact tested_shift W4 q 0 1
  have key : parseF (35 + q.size) (W4 ++ q) 27 [⟨3, 4, noB, []⟩] = shE 35 (contN q [⟨3, 4, noB, []⟩] (testedQ q 0 1)) := by
    obtain ⟨f, hf⟩ : ∃ f, 35 + q.size = f + 1 := ⟨34 + q.size, by omega⟩
    rw [hf]
    have hz := cont_shift W4 q f [⟨3, 4, noB, []⟩] (testedQ q 0 1) (testn_le (Nat.zero_le _)) (by omega)
    rw [z] at hz
    rw [← hz, ← f2]
    conv => lhs; unfold parseF
    rw [if_neg (by rintro ⟨q1, _⟩; rw [app_size, z] at q1; omega), if_neg (by rw [f0]; simp), f1]
    simp only [Bool.false_eq_true, if_false, List.length_singleton]
    rw [if_neg (by decide)]
    cases stepQ (W4 ++ q) 28 <;> rfl
  rw [← key]
  conv => lhs; unfold parseF
  rw [if_neg (by simp), if_neg (by rw [e0]; simp), e1]
  simp only [Bool.false_eq_true, if_false, List.length_nil]
  rw [if_neg (by decide), e2]
  rfl
end Q
end Go.Proofs.YtncgkglebpobpaaDoor
