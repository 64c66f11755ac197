/- Plain mathematics for layer glyph: the document's own way to read the next character comes to the same. No program is spoken of here. -/
import Derived.Test.YtidccohjehegjaaDoorK1
namespace Go.Proofs.YtidccohjehegjaaDoor
namespace G
def leadR (b : Int) : Nat × Int :=
  if 192 ≤ b ∧ b < 224 then (2, b - 192) else if 224 ≤ b ∧ b < 240 then (3, b - 224) else if 240 ≤ b ∧ b < 248 then (4, b - 240) else (1, b)
def valR (h : Int) (l : List UInt8) : Nat → Int
  | 0 => h
  | k + 1 => if k = 0 then h else valR h l k * 64 + at' l k - 128
def nextR (l : List UInt8) (n : Nat) (c : Int) : Int × Nat :=
  if l.length < n then (-1, 0) else if charB c = true ∧ putL c = l.take n then (c, n) else (-1, 0)
theorem pair_eq {x : Int × Nat} {c c' : Int} {n n' : Nat} (a : x = (c, n)) (b : x = (c', n')) : c' = c ∧ n' = n := by
  have := b.symm.trans a
  simpa using this
theorem valR_succ (h : Int) (l : List UInt8) (k : Nat) (hk : 1 ≤ k) : valR h l (k + 1) = valR h l k * 64 + at' l k - 128 := by
  have : k ≠ 0 := by omega
  simp [valR, this]
theorem valR2 (h : Int) (l : List UInt8) : valR h l 2 = h * 64 + at' l 1 - 128 := by simp [valR]
theorem valR3 (h : Int) (l : List UInt8) : valR h l 3 = (h * 64 + at' l 1 - 128) * 64 + at' l 2 - 128 := by simp [valR]
theorem valR4 (h : Int) (l : List UInt8) : valR h l 4 = ((h * 64 + at' l 1 - 128) * 64 + at' l 2 - 128) * 64 + at' l 3 - 128 := by simp [valR]
theorem valR_bound (h : Int) (l : List UInt8) (h0 : 0 ≤ h) (h1 : h < 32) (k : Nat) (hk : 1 ≤ k) (hm : k ≤ 3) : -600000 ≤ valR h l k ∧ valR h l k ≤ 600000 := by
  have r1 := at_range l 1
  have r2 := at_range l 2
  have : k = 1 ∨ k = 2 ∨ k = 3 := by omega
  rcases this with rfl | rfl | rfl
  · simp [valR]; omega
  · rw [valR2]; omega
  · rw [valR3]; omega
/-- Where there is a next character the document's way finds the same bytes and the same number. -/
theorem same_of_next (l : List UInt8) (c : Int) (n : Nat) (h : nextL l = (c, n)) (hn : n ≠ 0) : leadR (at' l 0) = (n, (leadR (at' l 0)).2) ∧ valR (leadR (at' l 0)).2 l n = c := by
  obtain ⟨hi, t, e, hle, hc, rfl, ht, hb⟩ := next_parts l c n h hn
  have r0 := at_range l 0
  rcases lead_cases (at' l 0) with ⟨w, q⟩ | ⟨w, q⟩ | ⟨w, q⟩ | ⟨w, q⟩ | ⟨w, q⟩
  · obtain ⟨rfl, rfl, rfl⟩ := lead_eq e q
    have : leadR (at' l 0) = (1, at' l 0) := by unfold leadR; rw [if_neg (by omega), if_neg (by omega), if_neg (by omega)]
    rw [this]
    exact ⟨rfl, by simp [valR, valTo]⟩
  · obtain ⟨rfl, rfl, rfl⟩ := lead_eq e q
    have : leadR (at' l 0) = (2, at' l 0 - 192) := by unfold leadR; rw [if_pos w]
    rw [cont2] at hc
    have c1 := cont_of hc
    rw [this]
    refine ⟨rfl, ?_⟩
    simp only
    rw [valR2, val2]
    omega
  · obtain ⟨rfl, rfl, rfl⟩ := lead_eq e q
    have : leadR (at' l 0) = (3, at' l 0 - 224) := by unfold leadR; rw [if_neg (by omega), if_pos w]
    rw [cont3, Bool.and_eq_true] at hc
    have c1 := cont_of hc.1
    have c2 := cont_of hc.2
    rw [this]
    refine ⟨rfl, ?_⟩
    simp only
    rw [valR3, val3]
    omega
  · obtain ⟨rfl, rfl, rfl⟩ := lead_eq e q
    have : leadR (at' l 0) = (4, at' l 0 - 240) := by unfold leadR; rw [if_neg (by omega), if_neg (by omega), if_pos w]
    rw [cont4, Bool.and_eq_true, Bool.and_eq_true] at hc
    have c1 := cont_of hc.1.1
    have c2 := cont_of hc.1.2
    have c3 := cont_of hc.2
    rw [this]
    refine ⟨rfl, ?_⟩
    simp only
    rw [valR4, val4]
    omega
  · obtain ⟨rfl, rfl, rfl⟩ := lead_eq e q
    exact absurd rfl hn
theorem nextR_eq (l : List UInt8) (hl : l ≠ []) (n : Nat) (h : Int) (e : leadR (at' l 0) = (n, h)) : nextR l n (valR h l n) = nextL l := by
  obtain ⟨⟨c', n'⟩, q⟩ : ∃ p, nextL l = p := ⟨_, rfl⟩
  by_cases z : n' = 0
  · have hc' : c' = -1 := by
      have := next_zero l hl (by rw [q]; exact z)
      rw [q] at this
      exact this
    rw [q, hc', z]
    unfold nextR
    split
    · rfl
    · rename_i hlen
      split
      · rename_i hp
        exfalso
        have s : l = putL (valR h l n) ++ l.drop n := by rw [hp.2, List.take_append_drop]
        have := put_next (valR h l n) hp.1 (l.drop n)
        rw [← s, q] at this
        have := (putN_len (valR h l n)).1
        simp at *
        omega
      · rfl
  · obtain ⟨s1, s2⟩ := same_of_next l c' n' q z
    rw [e] at s1 s2
    simp only [Prod.mk.injEq, and_true] at s1
    subst s1
    simp only at s2
    rw [s2, q]
    obtain ⟨a, b⟩ := next_putL l c' n q z
    have hle := next_le l
    rw [q] at hle
    simp only at hle
    unfold nextR
    rw [if_neg (by omega), if_pos ⟨a, b⟩]
end G
end Go.Proofs.YtidccohjehegjaaDoor
