/- Plain mathematics for layer glyph: the character that bytes begin with, how many characters a text has, names. No program is spoken of here. -/
import Derived.Test.YtmgemdhpjibdiaaDoorGPlain
namespace Go.Proofs.YtmgemdhpjibdiaaDoor
namespace G
/-- What a first byte says: how many bytes there are, the character's highest bits, the least character that takes so many bytes. -/
def leadN (b : Int) : Nat × Int × Int :=
  if b < 128 then (1, b, 0) else if 192 ≤ b ∧ b < 224 then (2, b % 32, 128)
  else if 224 ≤ b ∧ b < 240 then (3, b % 16, 2048) else if 240 ≤ b ∧ b < 248 then (4, b % 8, 65536) else (0, 0, 0)
def at' (l : List UInt8) (k : Nat) : Int := ((l.getD k 0).toNat : Int)
theorem at_range (l : List UInt8) (k : Nat) : 0 ≤ at' l k ∧ at' l k < 256 := by
  have := (l.getD k 0).toNat_lt
  unfold at'; omega
def valTo (h : Int) (l : List UInt8) : Nat → Int
  | 0 => h
  | k + 1 => if k = 0 then h else valTo h l k * 64 + at' l k % 64
def contB (l : List UInt8) (k : Nat) : Bool := decide (128 ≤ at' l k ∧ at' l k < 192)
def contTo (l : List UInt8) : Nat → Bool
  | 0 => true
  | k + 1 => contTo l k && (k == 0 || contB l k)
theorem cont_miss (l : List UInt8) (k : Nat) (h0 : 1 ≤ k) (h : contB l k = false) : ∀ n, k < n → contTo l n = false
  | 0, hn => by omega
  | n + 1, hn => by
    by_cases e : k = n
    · subst e; simp [contTo, h]; omega
    · simp [contTo, cont_miss l k h0 h n (by omega)]
/-- The character that a text begins with, and its bytes; (0, 0) of an empty text, (-1, 0) where there is none. -/
def nextL (l : List UInt8) : Int × Nat :=
  if l = [] then (0, 0)
  else if (leadN (at' l 0)).1 = 0 ∨ l.length < (leadN (at' l 0)).1 then (-1, 0)
  else if contTo l (leadN (at' l 0)).1 = false then (-1, 0)
  else if valTo (leadN (at' l 0)).2.1 l (leadN (at' l 0)).1 < (leadN (at' l 0)).2.2 ∨ charB (valTo (leadN (at' l 0)).2.1 l (leadN (at' l 0)).1) = false then (-1, 0)
  else (valTo (leadN (at' l 0)).2.1 l (leadN (at' l 0)).1, (leadN (at' l 0)).1)
theorem val_bound (l : List UInt8) (b : Int) (k : Nat) (hk : 1 ≤ k) (hm : k < (leadN b).1) : 0 ≤ valTo (leadN b).2.1 l k ∧ valTo (leadN b).2.1 l k < 32768 := by
  have r1 := at_range l 1
  have r2 := at_range l 2
  have r3 := at_range l 3
  unfold leadN at *
  split at hm
  · simp at hm; omega
  · rename_i a1
    split at hm
    · rename_i a2
      simp at hm
      obtain rfl : k = 1 := by omega
      simp [a1, a2, valTo]; omega
    · rename_i a2
      split at hm
      · rename_i a3
        simp at hm
        have : k = 1 ∨ k = 2 := by omega
        rcases this with rfl | rfl
        · simp [a1, a2, a3, valTo]; omega
        · simp [a1, a2, a3, valTo]; omega
      · rename_i a3
        split at hm
        · rename_i a4
          simp at hm
          have : k = 1 ∨ k = 2 ∨ k = 3 := by omega
          rcases this with rfl | rfl | rfl
          · simp [a1, a2, a3, a4, valTo]; omega
          · simp [a1, a2, a3, a4, valTo]; omega
          · simp [a1, a2, a3, a4, valTo]; omega
        · simp at hm
theorem lead_eq {b : Int} {m m' : Nat} {h h' t t' : Int} (a : leadN b = (m, h, t)) (c : leadN b = (m', h', t')) : m' = m ∧ h' = h ∧ t' = t := by
  have := c.symm.trans a
  simpa using this
theorem leadW1 (b : Int) (h : b < 128) : leadN b = (1, b, 0) := by simp [leadN, h]
theorem leadW2 (b : Int) (h : decide (192 ≤ b ∧ b < 224) = true) : leadN b = (2, b % 32, 128) := by
  simp at h
  simp [leadN, h, show ¬ b < 128 by omega]
theorem leadW3 (b : Int) (h : decide (224 ≤ b ∧ b < 240) = true) : leadN b = (3, b % 16, 2048) := by
  simp at h
  simp [leadN, h, show ¬ b < 128 by omega, show ¬ b < 224 by omega]
theorem leadW4 (b : Int) (h : decide (240 ≤ b ∧ b < 248) = true) : leadN b = (4, b % 8, 65536) := by
  simp at h
  simp [leadN, h, show ¬ b < 128 by omega, show ¬ b < 224 by omega, show ¬ b < 240 by omega]
theorem leadW0 (b : Int) (h : 128 ≤ b) (h1 : decide (192 ≤ b ∧ b < 224) = false) (h2 : decide (224 ≤ b ∧ b < 240) = false) (h3 : decide (240 ≤ b ∧ b < 248) = false) : leadN b = (0, 0, 0) := by
  rw [decide_eq_false_iff_not] at h1 h2 h3
  unfold leadN
  rw [if_neg (by omega), if_neg h1, if_neg h2, if_neg h3]
theorem next_eq {l : List UInt8} {c c' : Int} {n n' : Nat} (a : nextL l = (c, n)) (b : nextL l = (c', n')) : c' = c ∧ n' = n := by
  have := b.symm.trans a
  simpa using this
theorem nextW_none {l : List UInt8} {m : Nat} {h t : Int} (hl : l ≠ []) (H : leadN (at' l 0) = (m, h, t)) (k : m = 0 ∨ l.length < m) : nextL l = (-1, 0) := by
  simp only [nextL, H, hl, k, if_true, if_false]
theorem nextW_cont {l : List UInt8} {m : Nat} {h t : Int} (hl : l ≠ []) (H : leadN (at' l 0) = (m, h, t)) (ml : m ≤ l.length) (k : Nat) (k1 : 1 ≤ k) (km : k < m) (hc : contB l k = false) : nextL l = (-1, 0) := by
  have : ¬ (m = 0 ∨ l.length < m) := by omega
  simp only [nextL, H, hl, this, cont_miss l k k1 hc m km, if_true, if_false]
theorem nextW_bad {l : List UInt8} {m : Nat} {h t : Int} (hl : l ≠ []) (H : leadN (at' l 0) = (m, h, t)) (m0 : m ≠ 0) (ml : m ≤ l.length) (hc : contTo l m = true) (hb : valTo h l m < t ∨ charB (valTo h l m) = false) : nextL l = (-1, 0) := by
  have : ¬ (m = 0 ∨ l.length < m) := by omega
  simp only [nextL, H, hl, this, hc, hb, if_true, if_false, Bool.true_eq_false]
theorem nextW_ok {l : List UInt8} {m : Nat} {h t : Int} (hl : l ≠ []) (H : leadN (at' l 0) = (m, h, t)) (m0 : m ≠ 0) (ml : m ≤ l.length) (hc : contTo l m = true) (hb : t ≤ valTo h l m) (hd : charB (valTo h l m) = true) : nextL l = (valTo h l m, m) := by
  have e : ¬ (m = 0 ∨ l.length < m) := by omega
  have e2 : ¬ valTo h l m < t := by omega
  simp only [nextL, H, hl, e, hc, e2, hd, if_false, Bool.true_eq_false, or_false]
theorem valTo_succ (h : Int) (l : List UInt8) (k : Nat) (hk : 1 ≤ k) : valTo h l (k + 1) = valTo h l k * 64 + at' l k % 64 := by
  have : k ≠ 0 := by omega
  simp [valTo, this]
theorem contTo_succ (l : List UInt8) (k : Nat) (h : contTo l k = true) (hb : contB l k = true) : contTo l (k + 1) = true := by
  simp [contTo, h, hb]
theorem lead_le (b : Int) : (leadN b).1 ≤ 4 := by
  unfold leadN; repeat (first | split | simp)
end G
end Go.Proofs.YtmgemdhpjibdiaaDoor
