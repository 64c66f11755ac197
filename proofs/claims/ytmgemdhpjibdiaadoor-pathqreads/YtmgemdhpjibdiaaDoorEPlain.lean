/- Plain mathematics for layer escape: what stands instead of a character, what a reference is for, what is undone step by step. No program is spoken of here. -/
import Derived.Test.YtmgemdhpjibdiaaDoorGText2
namespace Go.Proofs.YtmgemdhpjibdiaaDoor
namespace E
open G
def amp : List UInt8 := [38, 97, 109, 112, 59]
def lt : List UInt8 := [38, 108, 116, 59]
def gt : List UInt8 := [38, 103, 116, 59]
def quot : List UInt8 := [38, 113, 117, 111, 116, 59]
def apos : List UInt8 := [38, 97, 112, 111, 115, 59]
def r13 : List UInt8 := [38, 35, 49, 51, 59]
def r9 : List UInt8 := [38, 35, 57, 59]
def r10 : List UInt8 := [38, 35, 49, 48, 59]
def namedL (c : Int) : List UInt8 := if c = 38 then amp else if c = 60 then lt else if c = 62 then gt else if c = 34 then quot else if c = 39 then apos else []
def insteadL (c : Int) (v : Bool) : List UInt8 :=
  if c = 38 then amp else if c = 60 then lt else if c = 62 then gt else if c = 13 then r13
  else if v = false then [] else if c = 34 then quot else if c = 9 then r9 else if c = 10 then r10 else []
/-- What a character is written as. -/
def escC (v : Bool) (c : Int) : List UInt8 := if insteadL c v = [] then putL c else insteadL c v
/-- What a text is written as; nothing, if it is not made of characters. -/
def escL (v : Bool) (l : List UInt8) : Option (List UInt8) := (chars l).map fun cs => cs.flatMap (escC v)

def hexV (b : Int) : Int := if 48 ≤ b ∧ b ≤ 57 then b - 48 else if 97 ≤ b ∧ b ≤ 102 then b - 97 + 10 else if 65 ≤ b ∧ b ≤ 70 then b - 65 + 10 else 16
def peekV (l : List UInt8) (k : Nat) : Int := if k < l.length then at' l k else -1
def valD (base : Int) (l : List UInt8) (o : Nat) : Nat → Int
  | 0 => 0
  | k + 1 => valD base l o k * base + hexV (peekV l (o + k))
def allD (base : Int) (l : List UInt8) (o : Nat) : Nat → Bool
  | 0 => true
  | k + 1 => allD base l o k && decide (hexV (peekV l (o + k)) < base)
def numB (base : Int) (o : Nat) (l : List UInt8) (k : Nat) : Bool := decide (1 ≤ k) && allD base l o k && decide (peekV l (o + k) = 59)
/-- The number that digits from a place on are for, if one to seven of them stand there, and a semicolon behind. -/
def numL (base : Int) (o : Nat) (l : List UInt8) : Int × Nat :=
  match (List.range 8).find? (numB base o l) with
  | some k => (valD base l o k, o + k + 1)
  | none => (0, 0)
def preB (p l : List UInt8) : Bool := p.isPrefixOf l
/-- The reference that a text, whose first byte is &, begins with. -/
def refL (l : List UInt8) : Int × Nat :=
  if preB amp l = true then (38, 5) else if preB lt l = true then (60, 4) else if preB gt l = true then (62, 4) else if preB quot l = true then (34, 6) else if preB apos l = true then (39, 6)
  else if peekV l 1 = 35 then (if peekV l 2 = 120 then numL 16 3 l else numL 10 2 l) else (0, 0)
def stepU (v : Bool) (l : List UInt8) : List UInt8 × Nat × Int :=
  if (nextL l).1 = 38 then (if (refL l).2 = 0 then ([], 0, 20) else if charB (refL l).1 = false then ([], 0, 21) else (putL (refL l).1, (refL l).2, 0))
  else if (nextL l).1 = 60 ∨ (nextL l).1 = 62 then ([], 0, 20)
  else if (nextL l).2 = 0 ∨ insteadL (nextL l).1 v ≠ [] then ([], 0, 21)
  else (l.take (nextL l).2, (nextL l).2, 0)
def undoF (v : Bool) : Nat → Nat → List UInt8 → List UInt8 → List UInt8 × Nat × Int
  | 0, o, acc, _ => (acc, o, 0)
  | f + 1, o, acc, l => if l = [] then (acc, o, 0) else if (stepU v l).2.2 ≠ 0 then ([], o, (stepU v l).2.2)
    else undoF v f (o + (stepU v l).2.1) (acc ++ (stepU v l).1) (l.drop (stepU v l).2.1)
/-- What a text is undone to, how many bytes it has, and 0; or nothing, the place of what is amiss, and how. -/
def undoL (v : Bool) (l : List UInt8) : List UInt8 × Nat × Int := undoF v (l.length + 1) 0 [] l

theorem pair_eq {x : Int × Nat} {c c' : Int} {n n' : Nat} (a : x = (c, n)) (b : x = (c', n')) : c' = c ∧ n' = n := by
  have := b.symm.trans a
  simpa using this
theorem pow10 (k : Nat) (h : k ≤ 6) : (10 : Int) ^ k ≤ 16777216 := by
  have : k = 0 ∨ k = 1 ∨ k = 2 ∨ k = 3 ∨ k = 4 ∨ k = 5 ∨ k = 6 := by omega
  rcases this with rfl | rfl | rfl | rfl | rfl | rfl | rfl <;> decide
theorem pow16 (k : Nat) (h : k ≤ 6) : (16 : Int) ^ k ≤ 16777216 := by
  have : k = 0 ∨ k = 1 ∨ k = 2 ∨ k = 3 ∨ k = 4 ∨ k = 5 ∨ k = 6 := by omega
  rcases this with rfl | rfl | rfl | rfl | rfl | rfl | rfl <;> decide
theorem peek_lt {l : List UInt8} {k : Nat} (h : k < l.length) : peekV l k = at' l k := by simp [peekV, h]
theorem peek_ge {l : List UInt8} {k : Nat} (h : ¬ k < l.length) : peekV l k = -1 := by simp [peekV, h]
theorem peek_range (l : List UInt8) (k : Nat) : -1 ≤ peekV l k ∧ peekV l k < 256 := by
  have := at_range l k
  unfold peekV; split <;> omega
theorem peek_len {l : List UInt8} {k : Nat} (h : 0 ≤ peekV l k) : k < l.length := by
  by_cases c : k < l.length
  · exact c
  · rw [peek_ge c] at h; omega
theorem hex_range (b : Int) : 0 ≤ hexV b ∧ hexV b ≤ 16 := by
  unfold hexV; repeat (first | split | omega)
theorem hex_semi : hexV 59 = 16 := by decide
theorem allD_at {base : Int} {l : List UInt8} {o : Nat} : ∀ {k : Nat}, allD base l o k = true → ∀ j, j < k → hexV (peekV l (o + j)) < base
  | 0, _, j, hj => by omega
  | k + 1, h, j, hj => by
    simp only [allD, Bool.and_eq_true, decide_eq_true_eq] at h
    by_cases e : j = k
    · subst e; exact h.2
    · exact allD_at h.1 j (by omega)
theorem numB_iff {base : Int} {o : Nat} {l : List UInt8} {k : Nat} : numB base o l k = true ↔ 1 ≤ k ∧ allD base l o k = true ∧ peekV l (o + k) = 59 := by
  simp [numB, and_assoc]
theorem numB_one {base : Int} (hb : base ≤ 16) {o : Nat} {l : List UInt8} {k j : Nat} (hk : numB base o l k = true) (hj : numB base o l j = true) : k = j := by
  rw [numB_iff] at hk hj
  rcases Nat.lt_trichotomy k j with h | h | h
  · have := allD_at hj.2.1 k h
    rw [hk.2.2, hex_semi] at this; omega
  · exact h
  · have := allD_at hk.2.1 j h
    rw [hj.2.2, hex_semi] at this; omega
theorem num_yes {base : Int} (hb : base ≤ 16) {o : Nat} {l : List UInt8} {k : Nat} (hk : k ≤ 7) (h : numB base o l k = true) : numL base o l = (valD base l o k, o + k + 1) := by
  unfold numL
  cases e : (List.range 8).find? (numB base o l) with
  | none =>
    rw [List.find?_eq_none] at e
    exact absurd h (e k (by simp; omega))
  | some j =>
    have := List.find?_some e
    rw [numB_one hb this h]
theorem num_no {base : Int} {o : Nat} {l : List UInt8} (h : ∀ k, k ≤ 7 → numB base o l k = false) : numL base o l = (0, 0) := by
  unfold numL
  have : (List.range 8).find? (numB base o l) = none := by
    rw [List.find?_eq_none]
    intro k hk
    simp at hk
    rw [h k (by omega)]; simp
  rw [this]
/-- Where the digits stop and no semicolon stands, or there are none, there is no number. -/
theorem num_stop {base : Int} (hb : base ≤ 16) {o : Nat} {l : List UInt8} {k : Nat} (ha : allD base l o k = true) (hk : k ≤ 7) (h1 : k = 0 ∨ peekV l (o + k) ≠ 59) (h2 : base ≤ hexV (peekV l (o + k)) ∨ k = 7) : numL base o l = (0, 0) := by
  refine num_no fun j hj => ?_
  rw [Bool.eq_false_iff]
  intro h
  rw [numB_iff] at h
  rcases Nat.lt_trichotomy j k with a | a | a
  · have := allD_at ha j a
    rw [h.2.2, hex_semi] at this; omega
  · subst a
    rcases h1 with q | q
    · omega
    · exact q h.2.2
  · rcases h2 with q | q
    · have := allD_at h.2.1 k a
      omega
    · omega
/-- What numL is, by its parts. -/
theorem num_parts (base : Int) (o : Nat) (l : List UInt8) : numL base o l = (0, 0) ∨ ∃ k, 1 ≤ k ∧ k ≤ 7 ∧ allD base l o k = true ∧ peekV l (o + k) = 59 ∧ numL base o l = (valD base l o k, o + k + 1) := by
  unfold numL
  cases e : (List.range 8).find? (numB base o l) with
  | none => exact .inl rfl
  | some j =>
    have h1 := List.find?_some e
    have h2 := List.mem_of_find?_eq_some e
    simp at h2
    rw [numB_iff] at h1
    exact .inr ⟨j, h1.1, by omega, h1.2.1, h1.2.2, rfl⟩
theorem pre_len {p l : List UInt8} (h : preB p l = true) : p.length ≤ l.length := by
  unfold preB at h
  rw [List.isPrefixOf_iff_prefix] at h
  exact h.length_le
theorem pre_at {p l : List UInt8} (h : preB p l = true) (k : Nat) (hk : k < p.length) : peekV l k = (p[k].toNat : Int) := by
  have hl := pre_len h
  unfold preB at h
  rw [List.isPrefixOf_iff_prefix] at h
  obtain ⟨q, rfl⟩ := h
  rw [peek_lt (by omega)]
  unfold at'
  rw [List.getD_eq_getElem?_getD, List.getElem?_append_left hk, List.getElem?_eq_getElem hk]
  rfl
theorem valD_bound (base : Int) (h0 : 0 ≤ base) (h1 : base ≤ 16) (l : List UInt8) (o : Nat) : ∀ k, allD base l o k = true → 0 ≤ valD base l o k ∧ valD base l o k < base ^ k
  | 0, _ => by simp [valD]
  | k + 1, h => by
    simp only [allD, Bool.and_eq_true, decide_eq_true_eq] at h
    obtain ⟨a, b⟩ := valD_bound base h0 h1 l o k h.1
    have r := hex_range (peekV l (o + k))
    have q := h.2
    generalize hd : hexV (peekV l (o + k)) = d at *
    generalize hv : valD base l o k = v at *
    have hpos : 0 ≤ v * base := Int.mul_nonneg a h0
    have h2 : v * base + base ≤ base ^ k * base := by
      have : (v + 1) * base ≤ base ^ k * base := Int.mul_le_mul_of_nonneg_right (by omega) h0
      rw [Int.add_mul] at this
      omega
    simp only [valD, hv, hd]
    rw [Int.pow_succ]
    constructor <;> omega
theorem num_le (base : Int) (o : Nat) (l : List UInt8) : (numL base o l).2 ≤ l.length := by
  rcases num_parts base o l with h | ⟨k, _, _, _, h4, h5⟩
  · rw [h]; simp
  · rw [h5]
    have := peek_len (l := l) (k := o + k) (by omega)
    simp only; omega
theorem ref_le (l : List UInt8) : (refL l).2 ≤ l.length := by
  unfold refL
  repeat' split
  all_goals first
    | (rename_i h; have := pre_len h; simpa [amp, lt, gt, quot, apos] using this)
    | exact num_le _ _ _
    | simp
theorem ref_four (l : List UInt8) (h : (refL l).2 ≠ 0) : 4 ≤ (refL l).2 := by
  have key : ∀ base o, 2 ≤ o → (numL base o l).2 ≠ 0 → 4 ≤ (numL base o l).2 := by
    intro base o ho hn
    rcases num_parts base o l with q | ⟨k, h1, _, _, _, h5⟩
    · rw [q] at hn; exact absurd rfl hn
    · rw [h5]; simp only; omega
  unfold refL at *
  repeat' split
  all_goals simp_all
theorem putL_len (c : Int) : 1 ≤ (putL c).length ∧ (putL c).length ≤ 4 := by
  have := putN_len c
  simpa [putL] using this
theorem step_ok (v : Bool) (l : List UInt8) (h : (stepU v l).2.2 = 0) : 1 ≤ (stepU v l).2.1 ∧ (stepU v l).2.1 ≤ l.length ∧ (stepU v l).1.length ≤ (stepU v l).2.1 := by
  unfold stepU at *
  split
  · rename_i a
    rw [if_pos a] at h
    split
    · rename_i b; rw [if_pos b] at h; simp at h
    · rename_i b
      rw [if_neg b] at h
      split
      · rename_i c; rw [if_pos c] at h; simp at h
      · have := ref_four l b
        have h2 := ref_le l
        have := putL_len (refL l).1
        simp only; omega
  · rename_i a
    rw [if_neg a] at h
    split
    · rename_i b; rw [if_pos b] at h; simp at h
    · rename_i b
      rw [if_neg b] at h
      split
      · rename_i c; rw [if_pos c] at h; simp at h
      · rename_i c
        have h2 := next_le l
        simp only [List.length_take]
        omega
theorem undoF_nil (v : Bool) (f o : Nat) (acc : List UInt8) : undoF v f o acc [] = (acc, o, 0) := by
  cases f <;> simp [undoF]
theorem undoF_bad {v : Bool} {f o : Nat} {acc l m : List UInt8} {n : Nat} {e : Int} (hl : l ≠ []) (hf : l.length < f) (hs : stepU v l = (m, n, e)) (he : e ≠ 0) : undoF v f o acc l = ([], o, e) := by
  obtain ⟨g, rfl⟩ : ∃ g, f = g + 1 := ⟨f - 1, by omega⟩
  simp [undoF, hl, hs, he]
theorem undoF_ok {v : Bool} {f o : Nat} {acc l m : List UInt8} {n : Nat} (hl : l ≠ []) (hf : l.length < f) (hs : stepU v l = (m, n, 0)) : undoF v f o acc l = undoF v (f - 1) (o + n) (acc ++ m) (l.drop n) := by
  obtain ⟨g, rfl⟩ : ∃ g, f = g + 1 := ⟨f - 1, by omega⟩
  simp [undoF, hl, hs]
end E
end Go.Proofs.YtmgemdhpjibdiaaDoor
