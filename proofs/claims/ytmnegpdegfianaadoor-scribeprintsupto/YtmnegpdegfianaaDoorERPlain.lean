/- Plain mathematics for layer escape: the document's own way to read a number comes to the same. No program is spoken of here. -/
import Derived.Test.YtmnegpdegfianaaDoorEBack
namespace Go.Proofs.YtmnegpdegfianaaDoor
namespace E
open G
/-- The number of a text that is all digits, one to seven of them; else -1. -/
def numS (base : Int) (l : List UInt8) : Int := if allD base l 0 l.length = true ∧ 1 ≤ l.length ∧ l.length ≤ 7 then valD base l 0 l.length else -1
theorem allD_cut {base : Int} {l : List UInt8} {o : Nat} : ∀ {d m : Nat}, m ≤ d → allD base l o d = true → allD base l o m = true
  | 0, m, hm, h => by obtain rfl : m = 0 := by omega
                      exact h
  | d + 1, m, hm, h => by
    by_cases e : m = d + 1
    · subst e; exact h
    · simp only [allD, Bool.and_eq_true] at h
      exact allD_cut (by omega) h.1
theorem numS_bad {base : Int} {l : List UInt8} {k : Nat} (hk : k < l.length) (h : base ≤ hexV (peekV l k)) : numS base l = -1 := by
  unfold numS
  rw [if_neg]
  rintro ⟨a, _⟩
  have := allD_at a k hk
  rw [Nat.zero_add] at this
  omega
theorem sub_peek (l : List UInt8) (o k j : Nat) (hk : k ≤ l.length) (h : o + j < k) : peekV ((l.take k).drop o) j = peekV l (o + j) := by
  rw [peek_lt (by simp; omega), peek_lt (by omega)]
  unfold at'
  rw [List.getD_eq_getElem?_getD, List.getD_eq_getElem?_getD, List.getElem?_drop, List.getElem?_take, if_pos h]
theorem sub_all (base : Int) (l : List UInt8) (o k : Nat) (hk : k ≤ l.length) : ∀ d, o + d ≤ k → allD base ((l.take k).drop o) 0 d = allD base l o d ∧ valD base ((l.take k).drop o) 0 d = valD base l o d
  | 0, _ => ⟨rfl, rfl⟩
  | d + 1, h => by
    obtain ⟨a, b⟩ := sub_all base l o k hk d (by omega)
    have := sub_peek l o k d hk (by omega)
    simp only [allD, valD, a, b, Nat.zero_add, this, and_self]
/-- What a number is, told by the first semicolon. -/
theorem num_first (base : Int) (hb : base ≤ 16) (l : List UInt8) (o k : Nat) (hk : k < l.length) (ho : o ≤ k) (h59 : peekV l k = 59) (first : ∀ j, j < k → peekV l j ≠ 59) (z : Int) (hz : numS base ((l.take k).drop o) = z) : numL base o l = if z < 0 then (0, 0) else (z, k + 1) := by
  obtain ⟨a, b⟩ := sub_all base l o k (by omega) (k - o) (by omega)
  have len : ((l.take k).drop o).length = k - o := by simp; omega
  have e : o + (k - o) = k := by omega
  unfold numS at hz
  rw [len, a, b] at hz
  by_cases c : allD base l o (k - o) = true ∧ 1 ≤ k - o ∧ k - o ≤ 7
  · rw [if_pos c] at hz
    have nz : 0 ≤ z := by
      rw [← hz]
      by_cases b0 : 0 ≤ base
      · exact (valD_bound base b0 hb l o _ c.1).1
      · have := allD_at c.1 0 (by omega)
        have := (hex_range (peekV l (o + 0))).1
        omega
    rw [if_neg (by omega), num_yes hb c.2.2 (numB_iff.2 ⟨c.2.1, c.1, by rw [e]; exact h59⟩), hz, e]
  · rw [if_neg c] at hz
    rw [if_pos (by omega)]
    refine num_no fun j hj => ?_
    rw [Bool.eq_false_iff]
    intro h
    rw [numB_iff] at h
    rcases Nat.lt_trichotomy j (k - o) with q | q | q
    · exact first (o + j) (by omega) h.2.2
    · subst q; exact c ⟨h.2.1, h.1, hj⟩
    · have := allD_at h.2.1 (k - o) q
      rw [e, h59, hex_semi] at this
      omega
theorem num_none (base : Int) (l : List UInt8) (o : Nat) (ho : o ≤ 3) (no : ∀ j, j < 12 → peekV l j ≠ 59) : numL base o l = (0, 0) := by
  refine num_no fun j hj => ?_
  rw [Bool.eq_false_iff]
  intro h
  rw [numB_iff] at h
  exact no (o + j) (by omega) h.2.2
theorem pre_two {l : List UInt8} (h : peekV l 0 = 38) : preB [38, 35] l = decide (peekV l 1 = 35) := by
  cases q : preB [38, 35] l
  · symm
    rw [decide_eq_false_iff_not]
    intro z
    have l1 := peek_len (l := l) (k := 1) (by omega)
    match l, l1 with
    | a :: b :: t, _ =>
      rw [peek0] at h
      rw [peekS, peek0] at z
      have ha : a = 38 := by have : a.toNat = 38 := by omega
                             exact UInt8.toNat.inj this
      have hb : b = 35 := by have : b.toNat = 35 := by omega
                             exact UInt8.toNat.inj this
      subst ha; subst hb
      simp [preB, List.isPrefixOf] at q
  · symm
    rw [decide_eq_true_eq]
    exact pre_at q 1 (by decide)
theorem pre_three {l : List UInt8} (h : peekV l 0 = 38) (h1 : peekV l 1 = 35) : preB [38, 35, 120] l = decide (peekV l 2 = 120) := by
  cases q : preB [38, 35, 120] l
  · symm
    rw [decide_eq_false_iff_not]
    intro z
    have l1 := peek_len (l := l) (k := 2) (by omega)
    match l, l1 with
    | a :: b :: c :: t, _ =>
      rw [peek0] at h
      rw [peekS, peek0] at h1
      rw [peekS, peekS, peek0] at z
      have ha : a = 38 := by have : a.toNat = 38 := by omega
                             exact UInt8.toNat.inj this
      have hb : b = 35 := by have : b.toNat = 35 := by omega
                             exact UInt8.toNat.inj this
      have hc : c = 120 := by have : c.toNat = 120 := by omega
                              exact UInt8.toNat.inj this
      subst ha; subst hb; subst hc
      simp [preB, List.isPrefixOf] at q
  · symm
    rw [decide_eq_true_eq]
    exact pre_at q 2 (by decide)
theorem powA10 (k : Nat) (h : k ≤ 10) : (10 : Int) ^ k ≤ 1099511627776 := by
  have : k = 0 ∨ k = 1 ∨ k = 2 ∨ k = 3 ∨ k = 4 ∨ k = 5 ∨ k = 6 ∨ k = 7 ∨ k = 8 ∨ k = 9 ∨ k = 10 := by omega
  rcases this with rfl | rfl | rfl | rfl | rfl | rfl | rfl | rfl | rfl | rfl | rfl <;> decide
theorem powA16 (k : Nat) (h : k ≤ 10) : (16 : Int) ^ k ≤ 1099511627776 := by
  have : k = 0 ∨ k = 1 ∨ k = 2 ∨ k = 3 ∨ k = 4 ∨ k = 5 ∨ k = 6 ∨ k = 7 ∨ k = 8 ∨ k = 9 ∨ k = 10 := by omega
  rcases this with rfl | rfl | rfl | rfl | rfl | rfl | rfl | rfl | rfl | rfl | rfl <;> decide
/-- A text whose first character is & begins with that byte. -/
theorem next_first (l : List UInt8) (h : (nextL l).1 = 38) : peekV l 0 = 38 := by
  by_cases e : l = []
  · subst e; simp [nextL] at h
  · by_cases z : (nextL l).2 = 0
    · have := next_zero l e z; omega
    · obtain ⟨_, p⟩ := next_putL l 38 (nextL l).2 (by rw [← h]) z
      rw [put38] at p
      have hl : l = [38] ++ l.drop (nextL l).2 := by rw [p, List.take_append_drop]
      rw [hl]
      simp [peekV, at']
def nm (j : Nat) : List UInt8 := [amp, lt, gt, quot, apos].getD j []
theorem ref_of0 {l : List UInt8} (h : preB amp l = true) : refL l = (38, 5) := by simpa using ref_atam l (pre_at h 1 (by decide)) (pre_at h 2 (by decide)) true h
theorem ref_of1 {l : List UInt8} (h : preB lt l = true) : refL l = (60, 4) := by simpa using ref_atl l (pre_at h 1 (by decide)) true h
theorem ref_of2 {l : List UInt8} (h : preB gt l = true) : refL l = (62, 4) := by simpa using ref_atg l (pre_at h 1 (by decide)) true h
theorem ref_of3 {l : List UInt8} (h : preB quot l = true) : refL l = (34, 6) := by simpa using ref_atq l (pre_at h 1 (by decide)) true h
theorem ref_of4 {l : List UInt8} (h : preB apos l = true) : refL l = (39, 6) := by simpa using ref_atap l (pre_at h 1 (by decide)) (pre_at h 2 (by decide)) true h
theorem ref_rest {l : List UInt8} (h : ∀ j, j < 5 → preB (nm j) l = false) : refL l = if peekV l 1 = 35 then (if peekV l 2 = 120 then numL 16 3 l else numL 10 2 l) else (0, 0) := by
  have a0 : preB amp l = false := h 0 (by decide)
  have a1 : preB lt l = false := h 1 (by decide)
  have a2 : preB gt l = false := h 2 (by decide)
  have a3 : preB quot l = false := h 3 (by decide)
  have a4 : preB apos l = false := h 4 (by decide)
  simp [refL, a0, a1, a2, a3, a4]
theorem ref_range (l : List UInt8) : 0 ≤ (refL l).1 ∧ (refL l).1 ≤ 268435456 := by
  have p7 : ∀ base o, (base = 10 ∨ base = 16) → 0 ≤ (numL base o l).1 ∧ (numL base o l).1 ≤ 268435456 := by
    intro base o hb
    rcases num_parts base o l with q | ⟨k, _, h2, h3, _, h5⟩
    · rw [q]; simp
    · rw [h5]
      have e : k = k - 1 + 1 := by omega
      rcases hb with rfl | rfl
      · have a := valD_bound 10 (by omega) (by omega) l o k h3
        have b := pow10 (k - 1) (by omega)
        rw [e, Int.pow_succ, ← e] at a
        simp only
        omega
      · have a := valD_bound 16 (by omega) (by omega) l o k h3
        have b := pow16 (k - 1) (by omega)
        rw [e, Int.pow_succ, ← e] at a
        simp only
        omega
  unfold refL
  repeat' split
  all_goals first
    | exact p7 _ _ (.inl rfl)
    | exact p7 _ _ (.inr rfl)
    | simp
theorem instead_bad (c : Int) (v : Bool) (h1 : c ≠ 38) (h2 : c ≠ 60) (h3 : c ≠ 62) : (insteadL c v ≠ []) ↔ (c = 13 ∨ (v = true ∧ (c = 34 ∨ c = 9 ∨ c = 10))) := by
  constructor
  · intro h
    rcases instead_cases c v h with ⟨e, _⟩ | ⟨e, _⟩ | ⟨e, _⟩ | ⟨e, _⟩ | ⟨e, e2, _⟩ | ⟨e, e2, _⟩ | ⟨e, e2, _⟩
    · exact absurd e h1
    · exact absurd e h2
    · exact absurd e h3
    · exact .inl e
    · exact .inr ⟨e2, .inl e⟩
    · exact .inr ⟨e2, .inr (.inl e)⟩
    · exact .inr ⟨e2, .inr (.inr e)⟩
  · rintro (rfl | ⟨rfl, rfl | rfl | rfl⟩)
    · cases v <;> decide
    · decide
    · decide
    · decide
end E
end Go.Proofs.YtmnegpdegfianaaDoor
