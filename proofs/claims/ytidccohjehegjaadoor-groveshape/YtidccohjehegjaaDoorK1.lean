/- Plain mathematics for layer lexis, more: tokens go on; what is known of each; all of them; what stands behind does not matter. -/
import Derived.Lib.Bytealg
namespace Go.Proofs.YtidccohjehegjaaDoor
namespace G

/-- The rows of the table of ranges: use, low, high. -/
def rows : List (Int × Int × Int) := [(0, 32, 55295), (0, 9, 10), (0, 13, 13), (0, 57344, 65533), (0, 65536, 1114111), (1, 97, 122), (1, 65, 90), (1, 95, 95), (1, 192, 214), (1, 216, 246), (1, 248, 767), (1, 880, 893), (1, 895, 8191), (1, 8204, 8205), (1, 8304, 8591), (1, 11264, 12271), (1, 12289, 55295), (1, 63744, 64975), (1, 65008, 65533), (1, 65536, 983039), (2, 45, 46), (2, 48, 57), (2, 183, 183), (2, 768, 879), (2, 8255, 8256)]
def useAt (k : Nat) : Int := (rows.getD k (0, 0, 0)).1
def lowAt (k : Nat) : Int := (rows.getD k (0, 0, 0)).2.1
def highAt (k : Nat) : Int := (rows.getD k (0, 0, 0)).2.2
def hitB (c u : Int) (k : Nat) : Bool := decide (useAt k = u) && decide (lowAt k ≤ c) && decide (c ≤ highAt k)
/-- One of the first k rows holds c for the use u. -/
def anyTo (c u : Int) : Nat → Bool
  | 0 => false
  | k + 1 => anyTo c u k || hitB c u k
def withinB (c u : Int) : Bool := anyTo c u 25

theorem any_mono (c u : Int) (k : Nat) (h : hitB c u k = true) : ∀ n, k < n → anyTo c u n = true
  | 0, hn => by omega
  | n + 1, hn => by
    by_cases e : k = n
    · subst e; simp [anyTo, h]
    · simp [anyTo, any_mono c u k h n (by omega)]
theorem within_hit (c u : Int) (k : Nat) (hk : k < 25) (h1 : useAt k = u) (h2 : lowAt k ≤ c) (h3 : c ≤ highAt k) : withinB c u = true :=
  any_mono c u k (by simp [hitB, h1, h2, h3]) 25 hk
theorem any_miss (c u : Int) (k : Nat) (h : anyTo c u k = false) (m : ¬ (useAt k = u ∧ lowAt k ≤ c ∧ c ≤ highAt k)) : anyTo c u (k + 1) = false := by
  simp only [anyTo, h, Bool.false_or, hitB, Bool.and_eq_false_iff, decide_eq_false_iff_not]
  by_cases a : useAt k = u
  · by_cases b : lowAt k ≤ c
    · exact .inr fun d => m ⟨a, b, d⟩
    · exact .inl (.inr b)
  · exact .inl (.inl a)

def charB (c : Int) : Bool := decide (c = 9 ∨ c = 10 ∨ c = 13 ∨ (32 ≤ c ∧ c ≤ 55295) ∨ (57344 ≤ c ∧ c ≤ 65533) ∨ (65536 ≤ c ∧ c ≤ 1114111))
def startB (c : Int) : Bool := decide (((65 ≤ c ∧ c ≤ 90) ∨ c = 95 ∨ (97 ≤ c ∧ c ≤ 122) ∨ (192 ≤ c ∧ c ≤ 214) ∨ (216 ≤ c ∧ c ≤ 246)) ∨ ((248 ≤ c ∧ c ≤ 767) ∨ (880 ≤ c ∧ c ≤ 893) ∨ (895 ≤ c ∧ c ≤ 8191) ∨ c = 8204 ∨ c = 8205) ∨ ((8304 ≤ c ∧ c ≤ 8591) ∨ (11264 ≤ c ∧ c ≤ 12271) ∨ (12289 ≤ c ∧ c ≤ 55295)) ∨ ((63744 ≤ c ∧ c ≤ 64975) ∨ (65008 ≤ c ∧ c ≤ 65533) ∨ (65536 ≤ c ∧ c ≤ 983039)))
def partB (c : Int) : Bool := startB c || decide (c = 45 ∨ c = 46 ∨ (48 ≤ c ∧ c ≤ 57) ∨ c = 183 ∨ (768 ≤ c ∧ c ≤ 879) ∨ c = 8255 ∨ c = 8256)

theorem within0 (c : Int) : withinB c 0 = charB c := by
  rw [Bool.eq_iff_iff]
  simp [withinB, anyTo, hitB, useAt, lowAt, highAt, rows, charB]
  omega
theorem within1 (c : Int) : withinB c 1 = startB c := by
  rw [Bool.eq_iff_iff]
  simp [withinB, anyTo, hitB, useAt, lowAt, highAt, rows, startB]
  omega
theorem within2 (c : Int) : (withinB c 1 || withinB c 2) = partB c := by
  rw [within1, Bool.eq_iff_iff]
  unfold partB
  generalize startB c = s
  cases s <;> simp [withinB, anyTo, hitB, useAt, lowAt, highAt, rows]
  omega
theorem start_part (c : Int) (h : startB c = true) : partB c = true := by simp [partB, h]
theorem part_char (c : Int) (h : partB c = true) : charB c = true := by
  simp [partB, startB] at h
  simp [charB]
  omega
end G
end Go.Proofs.YtidccohjehegjaaDoor
namespace Go.Proofs.YtidccohjehegjaaDoor
namespace G
/-- What a first byte says: how many bytes there are, the character's highest bits, the least character that takes so many bytes. -/
def leadN (b : Int) : Nat × Int × Int :=
  if b < 128 then (1, b, 0) else if 192 ≤ b ∧ b < 224 then (2, b % 32, 128)
  else if 224 ≤ b ∧ b < 240 then (3, b % 16, 2048) else if 240 ≤ b ∧ b < 248 then (4, b % 8, 65536) else (0, 0, 0)
def at' (l : List UInt8) (k : Nat) : Int := ((l.getD k 0).toNat : Int)
theorem at_range (l : List UInt8) (k : Nat) : 0 ≤ at' l k ∧ at' l k < 256 := by
  have := (l.getD k 0).toNat_lt
  unfold at'; omega
def valTo (h : Int) (l : List UInt8) : Nat → Int
  | 0 => h
  | k + 1 => if k = 0 then h else valTo h l k * 64 + at' l k % 64
def contB (l : List UInt8) (k : Nat) : Bool := decide (128 ≤ at' l k ∧ at' l k < 192)
def contTo (l : List UInt8) : Nat → Bool
  | 0 => true
  | k + 1 => contTo l k && (k == 0 || contB l k)
theorem cont_miss (l : List UInt8) (k : Nat) (h0 : 1 ≤ k) (h : contB l k = false) : ∀ n, k < n → contTo l n = false
  | 0, hn => by omega
  | n + 1, hn => by
    by_cases e : k = n
    · subst e; simp [contTo, h]; omega
    · simp [contTo, cont_miss l k h0 h n (by omega)]
/-- The character that a text begins with, and its bytes; (0, 0) of an empty text, (-1, 0) where there is none. -/
def nextL (l : List UInt8) : Int × Nat :=
  if l = [] then (0, 0)
  else if (leadN (at' l 0)).1 = 0 ∨ l.length < (leadN (at' l 0)).1 then (-1, 0)
  else if contTo l (leadN (at' l 0)).1 = false then (-1, 0)
  else if valTo (leadN (at' l 0)).2.1 l (leadN (at' l 0)).1 < (leadN (at' l 0)).2.2 ∨ charB (valTo (leadN (at' l 0)).2.1 l (leadN (at' l 0)).1) = false then (-1, 0)
  else (valTo (leadN (at' l 0)).2.1 l (leadN (at' l 0)).1, (leadN (at' l 0)).1)
theorem val_bound (l : List UInt8) (b : Int) (k : Nat) (hk : 1 ≤ k) (hm : k < (leadN b).1) : 0 ≤ valTo (leadN b).2.1 l k ∧ valTo (leadN b).2.1 l k < 32768 := by
  have r1 := at_range l 1
  have r2 := at_range l 2
  have r3 := at_range l 3
  unfold leadN at *
  split at hm
  · simp at hm; omega
  · rename_i a1
    split at hm
    · rename_i a2
      simp at hm
      obtain rfl : k = 1 := by omega
      simp [a1, a2, valTo]; omega
    · rename_i a2
      split at hm
      · rename_i a3
        simp at hm
        have : k = 1 ∨ k = 2 := by omega
        rcases this with rfl | rfl
        · simp [a1, a2, a3, valTo]; omega
        · simp [a1, a2, a3, valTo]; omega
      · rename_i a3
        split at hm
        · rename_i a4
          simp at hm
          have : k = 1 ∨ k = 2 ∨ k = 3 := by omega
          rcases this with rfl | rfl | rfl
          · simp [a1, a2, a3, a4, valTo]; omega
          · simp [a1, a2, a3, a4, valTo]; omega
          · simp [a1, a2, a3, a4, valTo]; omega
        · simp at hm
theorem lead_eq {b : Int} {m m' : Nat} {h h' t t' : Int} (a : leadN b = (m, h, t)) (c : leadN b = (m', h', t')) : m' = m ∧ h' = h ∧ t' = t := by
  have := c.symm.trans a
  simpa using this
theorem leadW1 (b : Int) (h : b < 128) : leadN b = (1, b, 0) := by simp [leadN, h]
theorem leadW2 (b : Int) (h : decide (192 ≤ b ∧ b < 224) = true) : leadN b = (2, b % 32, 128) := by
  simp at h
  simp [leadN, h, show ¬ b < 128 by omega]
theorem leadW3 (b : Int) (h : decide (224 ≤ b ∧ b < 240) = true) : leadN b = (3, b % 16, 2048) := by
  simp at h
  simp [leadN, h, show ¬ b < 128 by omega, show ¬ b < 224 by omega]
theorem leadW4 (b : Int) (h : decide (240 ≤ b ∧ b < 248) = true) : leadN b = (4, b % 8, 65536) := by
  simp at h
  simp [leadN, h, show ¬ b < 128 by omega, show ¬ b < 224 by omega, show ¬ b < 240 by omega]
theorem leadW0 (b : Int) (h : 128 ≤ b) (h1 : decide (192 ≤ b ∧ b < 224) = false) (h2 : decide (224 ≤ b ∧ b < 240) = false) (h3 : decide (240 ≤ b ∧ b < 248) = false) : leadN b = (0, 0, 0) := by
  rw [decide_eq_false_iff_not] at h1 h2 h3
  unfold leadN
  rw [if_neg (by omega), if_neg h1, if_neg h2, if_neg h3]
theorem next_eq {l : List UInt8} {c c' : Int} {n n' : Nat} (a : nextL l = (c, n)) (b : nextL l = (c', n')) : c' = c ∧ n' = n := by
  have := b.symm.trans a
  simpa using this
theorem nextW_none {l : List UInt8} {m : Nat} {h t : Int} (hl : l ≠ []) (H : leadN (at' l 0) = (m, h, t)) (k : m = 0 ∨ l.length < m) : nextL l = (-1, 0) := by
  simp only [nextL, H, hl, k, if_true, if_false]
theorem nextW_cont {l : List UInt8} {m : Nat} {h t : Int} (hl : l ≠ []) (H : leadN (at' l 0) = (m, h, t)) (ml : m ≤ l.length) (k : Nat) (k1 : 1 ≤ k) (km : k < m) (hc : contB l k = false) : nextL l = (-1, 0) := by
  have : ¬ (m = 0 ∨ l.length < m) := by omega
  simp only [nextL, H, hl, this, cont_miss l k k1 hc m km, if_true, if_false]
theorem nextW_bad {l : List UInt8} {m : Nat} {h t : Int} (hl : l ≠ []) (H : leadN (at' l 0) = (m, h, t)) (m0 : m ≠ 0) (ml : m ≤ l.length) (hc : contTo l m = true) (hb : valTo h l m < t ∨ charB (valTo h l m) = false) : nextL l = (-1, 0) := by
  have : ¬ (m = 0 ∨ l.length < m) := by omega
  simp only [nextL, H, hl, this, hc, hb, if_true, if_false, Bool.true_eq_false]
theorem nextW_ok {l : List UInt8} {m : Nat} {h t : Int} (hl : l ≠ []) (H : leadN (at' l 0) = (m, h, t)) (m0 : m ≠ 0) (ml : m ≤ l.length) (hc : contTo l m = true) (hb : t ≤ valTo h l m) (hd : charB (valTo h l m) = true) : nextL l = (valTo h l m, m) := by
  have e : ¬ (m = 0 ∨ l.length < m) := by omega
  have e2 : ¬ valTo h l m < t := by omega
  simp only [nextL, H, hl, e, hc, e2, hd, if_false, Bool.true_eq_false, or_false]
theorem valTo_succ (h : Int) (l : List UInt8) (k : Nat) (hk : 1 ≤ k) : valTo h l (k + 1) = valTo h l k * 64 + at' l k % 64 := by
  have : k ≠ 0 := by omega
  simp [valTo, this]
theorem contTo_succ (l : List UInt8) (k : Nat) (h : contTo l k = true) (hb : contB l k = true) : contTo l (k + 1) = true := by
  simp [contTo, h, hb]
theorem lead_le (b : Int) : (leadN b).1 ≤ 4 := by
  unfold leadN; repeat (first | split | simp)
end G
end Go.Proofs.YtidccohjehegjaaDoor
namespace Go.Proofs.YtidccohjehegjaaDoor
namespace G
/-- The bytes of a character, as numbers. -/
def putN (c : Int) : List Int :=
  if c < 128 then [c] else if c < 2048 then [192 + c / 64, 128 + c % 64]
  else if c < 65536 then [224 + c / 4096, 128 + c / 64 % 64, 128 + c % 64]
  else [240 + c / 262144, 128 + c / 4096 % 64, 128 + c / 64 % 64, 128 + c % 64]
theorem char_range (c : Int) (h : charB c = true) : 9 ≤ c ∧ c ≤ 1114111 := by
  simp [charB] at h; omega
def putL (c : Int) : List UInt8 := (putN c).map fun n => UInt8.ofNat n.toNat
def nums (l : List UInt8) : List Int := l.map fun b => (b.toNat : Int)
theorem of_nums (l : List UInt8) : (nums l).map (fun n => UInt8.ofNat n.toNat) = l := by
  induction l with
  | nil => rfl
  | cons b l ih => simp [nums] at ih ⊢; exact ih
theorem toNat_byte (n : Int) (h0 : 0 ≤ n) (h1 : n < 256) : ((UInt8.ofNat n.toNat).toNat : Int) = n := by
  simp [UInt8.toNat_ofNat']; omega
theorem next_le (l : List UInt8) : (nextL l).2 ≤ l.length := by
  unfold nextL
  split
  · simp
  · split
    · simp
    · rename_i h
      split
      · simp
      · split
        · simp
        · simp; omega
theorem next_zero (l : List UInt8) (hl : l ≠ []) (h : (nextL l).2 = 0) : (nextL l).1 = -1 := by
  unfold nextL at *
  rw [if_neg hl] at *
  split
  · rfl
  · rename_i a
    rw [if_neg a] at h
    split
    · rfl
    · rename_i b
      rw [if_neg b] at h
      split
      · rfl
      · rename_i d
        rw [if_neg d] at h
        simp at h
        omega
theorem put1 (a0 : Int) (h0 : a0 < 128) : putN a0 = [a0] := by simp [putN, h0]
theorem put2 (a0 a1 : Int) (h0 : 192 ≤ a0 ∧ a0 < 224) (h1 : 128 ≤ a1 ∧ a1 < 192) (hv : 128 ≤ a0 % 32 * 64 + a1 % 64) : putN (a0 % 32 * 64 + a1 % 64) = [a0, a1] := by
  obtain ⟨z, hz⟩ : ∃ z, z = a0 % 32 * 64 + a1 % 64 := ⟨_, rfl⟩
  rw [← hz] at hv ⊢
  unfold putN
  rw [if_neg (by omega), if_pos (by omega)]
  rw [show 192 + z / 64 = a0 by omega, show 128 + z % 64 = a1 by omega]
theorem put3 (a0 a1 a2 : Int) (h0 : 224 ≤ a0 ∧ a0 < 240) (h1 : 128 ≤ a1 ∧ a1 < 192) (h2 : 128 ≤ a2 ∧ a2 < 192) (hv : 2048 ≤ (a0 % 16 * 64 + a1 % 64) * 64 + a2 % 64) : putN ((a0 % 16 * 64 + a1 % 64) * 64 + a2 % 64) = [a0, a1, a2] := by
  obtain ⟨z, hz⟩ : ∃ z, z = (a0 % 16 * 64 + a1 % 64) * 64 + a2 % 64 := ⟨_, rfl⟩
  rw [← hz] at hv ⊢
  unfold putN
  rw [if_neg (by omega), if_neg (by omega), if_pos (by omega)]
  rw [show 224 + z / 4096 = a0 by omega, show 128 + z / 64 % 64 = a1 by omega, show 128 + z % 64 = a2 by omega]
theorem put4 (a0 a1 a2 a3 : Int) (h0 : 240 ≤ a0 ∧ a0 < 248) (h1 : 128 ≤ a1 ∧ a1 < 192) (h2 : 128 ≤ a2 ∧ a2 < 192) (h3 : 128 ≤ a3 ∧ a3 < 192) (hv : 65536 ≤ ((a0 % 8 * 64 + a1 % 64) * 64 + a2 % 64) * 64 + a3 % 64) : putN (((a0 % 8 * 64 + a1 % 64) * 64 + a2 % 64) * 64 + a3 % 64) = [a0, a1, a2, a3] := by
  obtain ⟨z, hz⟩ : ∃ z, z = ((a0 % 8 * 64 + a1 % 64) * 64 + a2 % 64) * 64 + a3 % 64 := ⟨_, rfl⟩
  rw [← hz] at hv ⊢
  unfold putN
  rw [if_neg (by omega), if_neg (by omega), if_neg (by omega)]
  rw [show 240 + z / 262144 = a0 by omega, show 128 + z / 4096 % 64 = a1 by omega, show 128 + z / 64 % 64 = a2 by omega, show 128 + z % 64 = a3 by omega]
theorem nums_take (l : List UInt8) : ∀ n, n ≤ l.length → nums (l.take n) = (List.range n).map (at' l)
  | 0, _ => rfl
  | n + 1, h => by
    have ih := nums_take l n (by omega)
    rw [List.take_succ_eq_append_getElem (by omega), List.range_succ, List.map_append, ← ih]
    unfold nums
    rw [List.map_append]
    simp [at', List.getElem?_eq_getElem (show n < l.length by omega)]
theorem val2 (h : Int) (l : List UInt8) : valTo h l 2 = h * 64 + at' l 1 % 64 := by simp [valTo]
theorem val3 (h : Int) (l : List UInt8) : valTo h l 3 = (h * 64 + at' l 1 % 64) * 64 + at' l 2 % 64 := by simp [valTo]
theorem val4 (h : Int) (l : List UInt8) : valTo h l 4 = ((h * 64 + at' l 1 % 64) * 64 + at' l 2 % 64) * 64 + at' l 3 % 64 := by simp [valTo]
theorem cont2 (l : List UInt8) : contTo l 2 = contB l 1 := by simp [contTo]
theorem cont3 (l : List UInt8) : contTo l 3 = (contB l 1 && contB l 2) := by simp [contTo]
theorem cont4 (l : List UInt8) : contTo l 4 = (contB l 1 && contB l 2 && contB l 3) := by simp [contTo]
theorem cont_of {l : List UInt8} {k : Nat} (h : contB l k = true) : 128 ≤ at' l k ∧ at' l k < 192 := by simpa [contB] using h
/-- The four ways of a first byte. -/
theorem lead_cases (b : Int) : (b < 128 ∧ leadN b = (1, b, 0)) ∨ ((192 ≤ b ∧ b < 224) ∧ leadN b = (2, b % 32, 128)) ∨ ((224 ≤ b ∧ b < 240) ∧ leadN b = (3, b % 16, 2048)) ∨ ((240 ≤ b ∧ b < 248) ∧ leadN b = (4, b % 8, 65536)) ∨ ((128 ≤ b ∧ b < 192 ∨ 248 ≤ b) ∧ leadN b = (0, 0, 0)) := by
  by_cases w1 : b < 128
  · exact .inl ⟨w1, leadW1 _ w1⟩
  by_cases w2 : 192 ≤ b ∧ b < 224
  · exact .inr (.inl ⟨w2, leadW2 _ (by simpa using w2)⟩)
  by_cases w3 : 224 ≤ b ∧ b < 240
  · exact .inr (.inr (.inl ⟨w3, leadW3 _ (by simpa using w3)⟩))
  by_cases w4 : 240 ≤ b ∧ b < 248
  · exact .inr (.inr (.inr (.inl ⟨w4, leadW4 _ (by simpa using w4)⟩)))
  · exact .inr (.inr (.inr (.inr ⟨by omega, leadW0 _ (by omega) (by simpa using w2) (by simpa using w3) (by simpa using w4)⟩)))
/-- What nextL is, by its parts. -/
theorem next_parts (l : List UInt8) (c : Int) (n : Nat) (h : nextL l = (c, n)) (hn : n ≠ 0) : ∃ hi t, leadN (at' l 0) = (n, hi, t) ∧ n ≤ l.length ∧ contTo l n = true ∧ c = valTo hi l n ∧ t ≤ c ∧ charB c = true := by
  obtain ⟨⟨m, hi, t⟩, e⟩ : ∃ p, leadN (at' l 0) = p := ⟨_, rfl⟩
  unfold nextL at h
  rw [e] at h
  simp only at h
  split at h
  · simp at h; omega
  · split at h
    · simp at h; omega
    · rename_i hm
      split at h
      · simp at h; omega
      · rename_i hc
        split at h
        · simp at h; omega
        · rename_i hv
          simp only [Prod.mk.injEq] at h
          obtain ⟨rfl, rfl⟩ := h
          exact ⟨hi, t, e, by omega, by simpa using hc, rfl, by omega, by simpa using fun q => hv (.inr q)⟩
/-- Whatever is next is a character, of whose bytes the text's first ones are. -/
theorem next_nums (l : List UInt8) (c : Int) (n : Nat) (h : nextL l = (c, n)) (hn : n ≠ 0) : charB c = true ∧ putN c = nums (l.take n) := by
  obtain ⟨hi, t, e, hle, hc, rfl, ht, hb⟩ := next_parts l c n h hn
  refine ⟨hb, ?_⟩
  rw [nums_take l n hle]
  rcases lead_cases (at' l 0) with ⟨w, q⟩ | ⟨w, q⟩ | ⟨w, q⟩ | ⟨w, q⟩ | ⟨w, q⟩
  · obtain ⟨rfl, rfl, rfl⟩ := lead_eq e q
    exact put1 _ w
  · obtain ⟨rfl, rfl, rfl⟩ := lead_eq e q
    rw [cont2] at hc
    rw [val2] at ht ⊢
    exact put2 _ _ w (cont_of hc) ht
  · obtain ⟨rfl, rfl, rfl⟩ := lead_eq e q
    rw [cont3, Bool.and_eq_true] at hc
    rw [val3] at ht ⊢
    exact put3 _ _ _ w (cont_of hc.1) (cont_of hc.2) ht
  · obtain ⟨rfl, rfl, rfl⟩ := lead_eq e q
    rw [cont4, Bool.and_eq_true, Bool.and_eq_true] at hc
    rw [val4] at ht ⊢
    exact put4 _ _ _ _ w (cont_of hc.1.1) (cont_of hc.1.2) (cont_of hc.2) ht
  · obtain ⟨rfl, rfl, rfl⟩ := lead_eq e q
    exact absurd rfl hn
theorem next_putL (l : List UInt8) (c : Int) (n : Nat) (h : nextL l = (c, n)) (hn : n ≠ 0) : charB c = true ∧ putL c = l.take n := by
  obtain ⟨a, b⟩ := next_nums l c n h hn
  refine ⟨a, ?_⟩
  unfold putL
  rw [b, of_nums]
theorem putN_len (c : Int) : 1 ≤ (putN c).length ∧ (putN c).length ≤ 4 := by
  unfold putN; split
  · simp
  · split
    · simp
    · split <;> simp
theorem putN_range (c : Int) (h0 : 0 ≤ c) (h1 : c ≤ 1114111) : ∀ x ∈ putN c, 0 ≤ x ∧ x < 256 := by
  intro x hx
  unfold putN at hx
  split at hx
  · simp at hx; omega
  · split at hx
    · simp at hx; omega
    · split at hx <;> (simp at hx; omega)
theorem nums_putL (c : Int) (h0 : 0 ≤ c) (h1 : c ≤ 1114111) : nums (putL c) = putN c := by
  unfold nums putL
  rw [List.map_map]
  conv => rhs; rw [← List.map_id (putN c)]
  refine List.map_congr_left fun x hx => ?_
  have := putN_range c h0 h1 x hx
  exact toNat_byte x this.1 this.2
end G
end Go.Proofs.YtidccohjehegjaaDoor
namespace Go.Proofs.YtidccohjehegjaaDoor
namespace G
theorem at_nums (l : List UInt8) (k : Nat) (h : k < l.length) : at' l k = (nums l).getD k 0 := by
  simp [at', nums, List.getElem?_eq_getElem h]
theorem at_put (c : Int) (hc : charB c = true) (more : List UInt8) (k : Nat) (hk : k < (putN c).length) : at' (putL c ++ more) k = (putN c).getD k 0 := by
  have hr := char_range c hc
  have hlen : (putL c).length = (putN c).length := by simp [putL]
  have : at' (putL c ++ more) k = at' (putL c) k := by
    unfold at'
    rw [List.getD_eq_getElem?_getD, List.getD_eq_getElem?_getD, List.getElem?_append_left (by omega)]
  rw [this, at_nums _ _ (by omega), nums_putL c (by omega) hr.2]
theorem put_len (c : Int) (more : List UInt8) : (putN c).length ≤ (putL c ++ more).length := by simp [putL]
theorem put_ne (c : Int) (more : List UInt8) : putL c ++ more ≠ [] := by
  intro h
  have h2 := (putN_len c).1
  have h3 := put_len c more
  rw [h] at h3
  simp at h3
  rw [h3] at h2
  simp at h2
theorem put_next (c : Int) (hc : charB c = true) (more : List UInt8) : nextL (putL c ++ more) = (c, (putN c).length) := by
  have hr := char_range c hc
  have hl := put_ne c more
  have hln := put_len c more
  have ha := at_put c hc more
  generalize putL c ++ more = l at *
  by_cases c1 : c < 128
  · have e : putN c = [c] := by unfold putN; rw [if_pos c1]
    rw [e] at ha hln ⊢
    have a0 := ha 0 (by simp)
    simp at a0
    have v : valTo c l 1 = c := by simp [valTo]
    have q := nextW_ok (t := 0) (m := 1) (h := c) hl (by rw [a0]; exact leadW1 c c1) (by omega) hln (by simp [contTo]) (by rw [v]; omega) (by rw [v]; exact hc)
    rw [q, v]; rfl
  by_cases c2 : c < 2048
  · have e : putN c = [192 + c / 64, 128 + c % 64] := by unfold putN; rw [if_neg c1, if_pos c2]
    rw [e] at ha hln ⊢
    have a0 := ha 0 (by simp)
    have a1 := ha 1 (by simp)
    simp at a0 a1
    have v : valTo (at' l 0 % 32) l 2 = c := by rw [val2]; omega
    have q := nextW_ok (t := 128) (m := 2) (h := at' l 0 % 32) hl (leadW2 _ (by simp; omega)) (by omega) hln (by rw [cont2]; simp [contB]; omega) (by rw [v]; omega) (by rw [v]; exact hc)
    rw [q, v]; rfl
  by_cases c3 : c < 65536
  · have e : putN c = [224 + c / 4096, 128 + c / 64 % 64, 128 + c % 64] := by unfold putN; rw [if_neg c1, if_neg c2, if_pos c3]
    rw [e] at ha hln ⊢
    have a0 := ha 0 (by simp)
    have a1 := ha 1 (by simp)
    have a2 := ha 2 (by simp)
    simp at a0 a1 a2
    have v : valTo (at' l 0 % 16) l 3 = c := by rw [val3]; omega
    have q := nextW_ok (t := 2048) (m := 3) (h := at' l 0 % 16) hl (leadW3 _ (by simp; omega)) (by omega) hln (by rw [cont3]; simp [contB]; omega) (by rw [v]; omega) (by rw [v]; exact hc)
    rw [q, v]; rfl
  · have e : putN c = [240 + c / 262144, 128 + c / 4096 % 64, 128 + c / 64 % 64, 128 + c % 64] := by unfold putN; rw [if_neg c1, if_neg c2, if_neg c3]
    rw [e] at ha hln ⊢
    have a0 := ha 0 (by simp)
    have a1 := ha 1 (by simp)
    have a2 := ha 2 (by simp)
    have a3 := ha 3 (by simp)
    simp at a0 a1 a2 a3
    have v : valTo (at' l 0 % 8) l 4 = c := by rw [val4]; omega
    have q := nextW_ok (t := 65536) (m := 4) (h := at' l 0 % 8) hl (leadW4 _ (by simp; omega)) (by omega) hln (by rw [cont4]; simp [contB]; omega) (by rw [v]; omega) (by rw [v]; exact hc)
    rw [q, v]; rfl
/-- The character that a text begins with does not hang on what stands behind it. -/
theorem next_ahead (l more : List UInt8) (c : Int) (n : Nat) (h : nextL l = (c, n)) (hn : n ≠ 0) : nextL (l ++ more) = (c, n) ∧ nextL (l.take n) = (c, n) := by
  obtain ⟨hc, hp⟩ := next_putL l c n h hn
  have hle : n ≤ l.length := by have := next_le l; rw [h] at this; exact this
  have hlen : (putN c).length = n := by
    have := congrArg List.length hp
    simp [putL] at this
    omega
  constructor
  · have : l ++ more = putL c ++ (l.drop n ++ more) := by rw [hp, ← List.append_assoc, List.take_append_drop]
    rw [this, put_next c hc, hlen]
  · have : l.take n = putL c ++ [] := by rw [hp, List.append_nil]
    rw [this, put_next c hc, hlen]

/-- The characters of a text; none, if it is not made of such. -/
def charsF : Nat → List UInt8 → Option (List Int)
  | 0, _ => none
  | f + 1, l => if l = [] then some [] else if (nextL l).2 = 0 then none else (charsF f (l.drop (nextL l).2)).map ((nextL l).1 :: ·)
theorem charsF_enough : ∀ (f g : Nat) (l : List UInt8), l.length < f → l.length < g → charsF f l = charsF g l
  | 0, _, _, h, _ => by omega
  | _, 0, _, _, h => by omega
  | f + 1, g + 1, l, hf, hg => by
    unfold charsF
    split
    · rfl
    · split
      · rfl
      · rename_i h1 h2
        have := next_le l
        rw [charsF_enough f g (l.drop (nextL l).2) (by simp; omega) (by simp; omega)]
def chars (l : List UInt8) : Option (List Int) := charsF (l.length + 1) l
theorem chars_nil : chars [] = some [] := rfl
theorem chars_none (l : List UInt8) (h : l ≠ []) (hn : (nextL l).2 = 0) : chars l = none := by
  unfold chars charsF; rw [if_neg h, if_pos hn]
theorem chars_cons (l : List UInt8) (h : l ≠ []) (hn : (nextL l).2 ≠ 0) : chars l = (chars (l.drop (nextL l).2)).map ((nextL l).1 :: ·) := by
  have hl := next_le l
  unfold chars
  conv => lhs; unfold charsF
  rw [if_neg h, if_neg hn, charsF_enough l.length ((l.drop (nextL l).2).length + 1) _ (by simp; omega) (by omega)]
theorem chars_append (a b : List UInt8) : ∀ (n : Nat) (xs ys : List Int), a.length ≤ n → chars a = some xs → chars b = some ys → chars (a ++ b) = some (xs ++ ys) := by
  intro n
  induction n generalizing a with
  | zero =>
    intro xs ys hn ha hb
    have : a = [] := by simpa using hn
    subst this
    rw [chars_nil] at ha
    cases ha
    simpa using hb
  | succ n ih =>
    intro xs ys hn ha hb
    by_cases e : a = []
    · subst e
      rw [chars_nil] at ha
      cases ha
      simpa using hb
    · by_cases z : (nextL a).2 = 0
      · rw [chars_none a e z] at ha; cases ha
      · rw [chars_cons a e z] at ha
        obtain ⟨zs, hz, rfl⟩ := Option.map_eq_some_iff.1 ha
        obtain ⟨q, _⟩ := next_ahead a b (nextL a).1 (nextL a).2 rfl z
        have hle := next_le a
        have hd : (a ++ b).drop (nextL a).2 = a.drop (nextL a).2 ++ b := by rw [List.drop_append_of_le_length hle]
        rw [chars_cons (a ++ b) (by simp [e]) (by rw [q]; exact z), q]
        simp only
        rw [hd, ih (a.drop (nextL a).2) zs ys (by simp; omega) hz hb]
        rfl
def countZ (l : List UInt8) : Int := match chars l with | none => -1 | some cs => (cs.length : Int)
theorem chars_len (n : Nat) : ∀ (l : List UInt8) (cs : List Int), l.length ≤ n → chars l = some cs → cs.length ≤ l.length := by
  induction n with
  | zero =>
    intro l cs hn h
    have : l = [] := by simpa using hn
    subst this
    rw [chars_nil] at h
    cases h
    simp
  | succ n ih =>
    intro l cs hn h
    by_cases e : l = []
    · subst e; rw [chars_nil] at h; cases h; simp
    · by_cases z : (nextL l).2 = 0
      · rw [chars_none l e z] at h; cases h
      · rw [chars_cons l e z] at h
        obtain ⟨zs, hz, rfl⟩ := Option.map_eq_some_iff.1 h
        have hle := next_le l
        have := ih (l.drop (nextL l).2) zs (by simp; omega) hz
        simp at this ⊢
        omega
/-- All characters of a text are name parts. -/
def partsB (l : List UInt8) : Bool := match chars l with | none => false | some cs => cs.all partB
theorem part_minus : partB (-1) = false := by decide
theorem start_zero : startB 0 = false := by decide
theorem start_minus : startB (-1) = false := by decide
theorem parts_nil : partsB [] = true := rfl
theorem parts_cons (l : List UInt8) (h : l ≠ []) : partsB l = (partB (nextL l).1 && partsB (l.drop (nextL l).2)) := by
  by_cases z : (nextL l).2 = 0
  · rw [next_zero l h z, part_minus]
    unfold partsB
    rw [chars_none l h z]
    rfl
  · unfold partsB
    rw [chars_cons l h z]
    cases chars (l.drop (nextL l).2) <;> simp
def nameB (l : List UInt8) : Bool := decide (l.length ≤ 60) && startB (nextL l).1 && partsB l
end G
end Go.Proofs.YtidccohjehegjaaDoor
namespace Go.Proofs.YtidccohjehegjaaDoor
namespace E
open G
def amp : List UInt8 := [38, 97, 109, 112, 59]
def lt : List UInt8 := [38, 108, 116, 59]
def gt : List UInt8 := [38, 103, 116, 59]
def quot : List UInt8 := [38, 113, 117, 111, 116, 59]
def apos : List UInt8 := [38, 97, 112, 111, 115, 59]
def r13 : List UInt8 := [38, 35, 49, 51, 59]
def r9 : List UInt8 := [38, 35, 57, 59]
def r10 : List UInt8 := [38, 35, 49, 48, 59]
def namedL (c : Int) : List UInt8 := if c = 38 then amp else if c = 60 then lt else if c = 62 then gt else if c = 34 then quot else if c = 39 then apos else []
def insteadL (c : Int) (v : Bool) : List UInt8 :=
  if c = 38 then amp else if c = 60 then lt else if c = 62 then gt else if c = 13 then r13
  else if v = false then [] else if c = 34 then quot else if c = 9 then r9 else if c = 10 then r10 else []
/-- What a character is written as. -/
def escC (v : Bool) (c : Int) : List UInt8 := if insteadL c v = [] then putL c else insteadL c v
/-- What a text is written as; nothing, if it is not made of characters. -/
def escL (v : Bool) (l : List UInt8) : Option (List UInt8) := (chars l).map fun cs => cs.flatMap (escC v)

def hexV (b : Int) : Int := if 48 ≤ b ∧ b ≤ 57 then b - 48 else if 97 ≤ b ∧ b ≤ 102 then b - 97 + 10 else if 65 ≤ b ∧ b ≤ 70 then b - 65 + 10 else 16
def peekV (l : List UInt8) (k : Nat) : Int := if k < l.length then at' l k else -1
def valD (base : Int) (l : List UInt8) (o : Nat) : Nat → Int
  | 0 => 0
  | k + 1 => valD base l o k * base + hexV (peekV l (o + k))
def allD (base : Int) (l : List UInt8) (o : Nat) : Nat → Bool
  | 0 => true
  | k + 1 => allD base l o k && decide (hexV (peekV l (o + k)) < base)
def numB (base : Int) (o : Nat) (l : List UInt8) (k : Nat) : Bool := decide (1 ≤ k) && allD base l o k && decide (peekV l (o + k) = 59)
/-- The number that digits from a place on are for, if one to seven of them stand there, and a semicolon behind. -/
def numL (base : Int) (o : Nat) (l : List UInt8) : Int × Nat :=
  match (List.range 8).find? (numB base o l) with
  | some k => (valD base l o k, o + k + 1)
  | none => (0, 0)
def preB (p l : List UInt8) : Bool := p.isPrefixOf l
/-- The reference that a text, whose first byte is &, begins with. -/
def refL (l : List UInt8) : Int × Nat :=
  if preB amp l = true then (38, 5) else if preB lt l = true then (60, 4) else if preB gt l = true then (62, 4) else if preB quot l = true then (34, 6) else if preB apos l = true then (39, 6)
  else if peekV l 1 = 35 then (if peekV l 2 = 120 then numL 16 3 l else numL 10 2 l) else (0, 0)
def stepU (v : Bool) (l : List UInt8) : List UInt8 × Nat × Int :=
  if (nextL l).1 = 38 then (if (refL l).2 = 0 then ([], 0, 20) else if charB (refL l).1 = false then ([], 0, 21) else (putL (refL l).1, (refL l).2, 0))
  else if (nextL l).1 = 60 ∨ (nextL l).1 = 62 then ([], 0, 20)
  else if (nextL l).2 = 0 ∨ insteadL (nextL l).1 v ≠ [] then ([], 0, 21)
  else (l.take (nextL l).2, (nextL l).2, 0)
def undoF (v : Bool) : Nat → Nat → List UInt8 → List UInt8 → List UInt8 × Nat × Int
  | 0, o, acc, _ => (acc, o, 0)
  | f + 1, o, acc, l => if l = [] then (acc, o, 0) else if (stepU v l).2.2 ≠ 0 then ([], o, (stepU v l).2.2)
    else undoF v f (o + (stepU v l).2.1) (acc ++ (stepU v l).1) (l.drop (stepU v l).2.1)
/-- What a text is undone to, how many bytes it has, and 0; or nothing, the place of what is amiss, and how. -/
def undoL (v : Bool) (l : List UInt8) : List UInt8 × Nat × Int := undoF v (l.length + 1) 0 [] l

theorem pair_eq {x : Int × Nat} {c c' : Int} {n n' : Nat} (a : x = (c, n)) (b : x = (c', n')) : c' = c ∧ n' = n := by
  have := b.symm.trans a
  simpa using this
theorem pow10 (k : Nat) (h : k ≤ 6) : (10 : Int) ^ k ≤ 16777216 := by
  have : k = 0 ∨ k = 1 ∨ k = 2 ∨ k = 3 ∨ k = 4 ∨ k = 5 ∨ k = 6 := by omega
  rcases this with rfl | rfl | rfl | rfl | rfl | rfl | rfl <;> decide
theorem pow16 (k : Nat) (h : k ≤ 6) : (16 : Int) ^ k ≤ 16777216 := by
  have : k = 0 ∨ k = 1 ∨ k = 2 ∨ k = 3 ∨ k = 4 ∨ k = 5 ∨ k = 6 := by omega
  rcases this with rfl | rfl | rfl | rfl | rfl | rfl | rfl <;> decide
theorem peek_lt {l : List UInt8} {k : Nat} (h : k < l.length) : peekV l k = at' l k := by simp [peekV, h]
theorem peek_ge {l : List UInt8} {k : Nat} (h : ¬ k < l.length) : peekV l k = -1 := by simp [peekV, h]
theorem peek_range (l : List UInt8) (k : Nat) : -1 ≤ peekV l k ∧ peekV l k < 256 := by
  have := at_range l k
  unfold peekV; split <;> omega
theorem peek_len {l : List UInt8} {k : Nat} (h : 0 ≤ peekV l k) : k < l.length := by
  by_cases c : k < l.length
  · exact c
  · rw [peek_ge c] at h; omega
theorem hex_range (b : Int) : 0 ≤ hexV b ∧ hexV b ≤ 16 := by
  unfold hexV; repeat (first | split | omega)
theorem hex_semi : hexV 59 = 16 := by decide
theorem allD_at {base : Int} {l : List UInt8} {o : Nat} : ∀ {k : Nat}, allD base l o k = true → ∀ j, j < k → hexV (peekV l (o + j)) < base
  | 0, _, j, hj => by omega
  | k + 1, h, j, hj => by
    simp only [allD, Bool.and_eq_true, decide_eq_true_eq] at h
    by_cases e : j = k
    · subst e; exact h.2
    · exact allD_at h.1 j (by omega)
theorem numB_iff {base : Int} {o : Nat} {l : List UInt8} {k : Nat} : numB base o l k = true ↔ 1 ≤ k ∧ allD base l o k = true ∧ peekV l (o + k) = 59 := by
  simp [numB, and_assoc]
theorem numB_one {base : Int} (hb : base ≤ 16) {o : Nat} {l : List UInt8} {k j : Nat} (hk : numB base o l k = true) (hj : numB base o l j = true) : k = j := by
  rw [numB_iff] at hk hj
  rcases Nat.lt_trichotomy k j with h | h | h
  · have := allD_at hj.2.1 k h
    rw [hk.2.2, hex_semi] at this; omega
  · exact h
  · have := allD_at hk.2.1 j h
    rw [hj.2.2, hex_semi] at this; omega
theorem num_yes {base : Int} (hb : base ≤ 16) {o : Nat} {l : List UInt8} {k : Nat} (hk : k ≤ 7) (h : numB base o l k = true) : numL base o l = (valD base l o k, o + k + 1) := by
  unfold numL
  cases e : (List.range 8).find? (numB base o l) with
  | none =>
    rw [List.find?_eq_none] at e
    exact absurd h (e k (by simp; omega))
  | some j =>
    have := List.find?_some e
    rw [numB_one hb this h]
theorem num_no {base : Int} {o : Nat} {l : List UInt8} (h : ∀ k, k ≤ 7 → numB base o l k = false) : numL base o l = (0, 0) := by
  unfold numL
  have : (List.range 8).find? (numB base o l) = none := by
    rw [List.find?_eq_none]
    intro k hk
    simp at hk
    rw [h k (by omega)]; simp
  rw [this]
/-- Where the digits stop and no semicolon stands, or there are none, there is no number. -/
theorem num_stop {base : Int} (hb : base ≤ 16) {o : Nat} {l : List UInt8} {k : Nat} (ha : allD base l o k = true) (hk : k ≤ 7) (h1 : k = 0 ∨ peekV l (o + k) ≠ 59) (h2 : base ≤ hexV (peekV l (o + k)) ∨ k = 7) : numL base o l = (0, 0) := by
  refine num_no fun j hj => ?_
  rw [Bool.eq_false_iff]
  intro h
  rw [numB_iff] at h
  rcases Nat.lt_trichotomy j k with a | a | a
  · have := allD_at ha j a
    rw [h.2.2, hex_semi] at this; omega
  · subst a
    rcases h1 with q | q
    · omega
    · exact q h.2.2
  · rcases h2 with q | q
    · have := allD_at h.2.1 k a
      omega
    · omega
/-- What numL is, by its parts. -/
theorem num_parts (base : Int) (o : Nat) (l : List UInt8) : numL base o l = (0, 0) ∨ ∃ k, 1 ≤ k ∧ k ≤ 7 ∧ allD base l o k = true ∧ peekV l (o + k) = 59 ∧ numL base o l = (valD base l o k, o + k + 1) := by
  unfold numL
  cases e : (List.range 8).find? (numB base o l) with
  | none => exact .inl rfl
  | some j =>
    have h1 := List.find?_some e
    have h2 := List.mem_of_find?_eq_some e
    simp at h2
    rw [numB_iff] at h1
    exact .inr ⟨j, h1.1, by omega, h1.2.1, h1.2.2, rfl⟩
theorem pre_len {p l : List UInt8} (h : preB p l = true) : p.length ≤ l.length := by
  unfold preB at h
  rw [List.isPrefixOf_iff_prefix] at h
  exact h.length_le
theorem pre_at {p l : List UInt8} (h : preB p l = true) (k : Nat) (hk : k < p.length) : peekV l k = (p[k].toNat : Int) := by
  have hl := pre_len h
  unfold preB at h
  rw [List.isPrefixOf_iff_prefix] at h
  obtain ⟨q, rfl⟩ := h
  rw [peek_lt (by omega)]
  unfold at'
  rw [List.getD_eq_getElem?_getD, List.getElem?_append_left hk, List.getElem?_eq_getElem hk]
  rfl
theorem valD_bound (base : Int) (h0 : 0 ≤ base) (h1 : base ≤ 16) (l : List UInt8) (o : Nat) : ∀ k, allD base l o k = true → 0 ≤ valD base l o k ∧ valD base l o k < base ^ k
  | 0, _ => by simp [valD]
  | k + 1, h => by
    simp only [allD, Bool.and_eq_true, decide_eq_true_eq] at h
    obtain ⟨a, b⟩ := valD_bound base h0 h1 l o k h.1
    have r := hex_range (peekV l (o + k))
    have q := h.2
    generalize hd : hexV (peekV l (o + k)) = d at *
    generalize hv : valD base l o k = v at *
    have hpos : 0 ≤ v * base := Int.mul_nonneg a h0
    have h2 : v * base + base ≤ base ^ k * base := by
      have : (v + 1) * base ≤ base ^ k * base := Int.mul_le_mul_of_nonneg_right (by omega) h0
      rw [Int.add_mul] at this
      omega
    simp only [valD, hv, hd]
    rw [Int.pow_succ]
    constructor <;> omega
theorem num_le (base : Int) (o : Nat) (l : List UInt8) : (numL base o l).2 ≤ l.length := by
  rcases num_parts base o l with h | ⟨k, _, _, _, h4, h5⟩
  · rw [h]; simp
  · rw [h5]
    have := peek_len (l := l) (k := o + k) (by omega)
    simp only; omega
theorem ref_le (l : List UInt8) : (refL l).2 ≤ l.length := by
  unfold refL
  repeat' split
  all_goals first
    | (rename_i h; have := pre_len h; simpa [amp, lt, gt, quot, apos] using this)
    | exact num_le _ _ _
    | simp
theorem ref_four (l : List UInt8) (h : (refL l).2 ≠ 0) : 4 ≤ (refL l).2 := by
  have key : ∀ base o, 2 ≤ o → (numL base o l).2 ≠ 0 → 4 ≤ (numL base o l).2 := by
    intro base o ho hn
    rcases num_parts base o l with q | ⟨k, h1, _, _, _, h5⟩
    · rw [q] at hn; exact absurd rfl hn
    · rw [h5]; simp only; omega
  unfold refL at *
  repeat' split
  all_goals simp_all
theorem putL_len (c : Int) : 1 ≤ (putL c).length ∧ (putL c).length ≤ 4 := by
  have := putN_len c
  simpa [putL] using this
theorem step_ok (v : Bool) (l : List UInt8) (h : (stepU v l).2.2 = 0) : 1 ≤ (stepU v l).2.1 ∧ (stepU v l).2.1 ≤ l.length ∧ (stepU v l).1.length ≤ (stepU v l).2.1 := by
  unfold stepU at *
  split
  · rename_i a
    rw [if_pos a] at h
    split
    · rename_i b; rw [if_pos b] at h; simp at h
    · rename_i b
      rw [if_neg b] at h
      split
      · rename_i c; rw [if_pos c] at h; simp at h
      · have := ref_four l b
        have h2 := ref_le l
        have := putL_len (refL l).1
        simp only; omega
  · rename_i a
    rw [if_neg a] at h
    split
    · rename_i b; rw [if_pos b] at h; simp at h
    · rename_i b
      rw [if_neg b] at h
      split
      · rename_i c; rw [if_pos c] at h; simp at h
      · rename_i c
        have h2 := next_le l
        simp only [List.length_take]
        omega
theorem undoF_nil (v : Bool) (f o : Nat) (acc : List UInt8) : undoF v f o acc [] = (acc, o, 0) := by
  cases f <;> simp [undoF]
theorem undoF_bad {v : Bool} {f o : Nat} {acc l m : List UInt8} {n : Nat} {e : Int} (hl : l ≠ []) (hf : l.length < f) (hs : stepU v l = (m, n, e)) (he : e ≠ 0) : undoF v f o acc l = ([], o, e) := by
  obtain ⟨g, rfl⟩ : ∃ g, f = g + 1 := ⟨f - 1, by omega⟩
  simp [undoF, hl, hs, he]
theorem undoF_ok {v : Bool} {f o : Nat} {acc l m : List UInt8} {n : Nat} (hl : l ≠ []) (hf : l.length < f) (hs : stepU v l = (m, n, 0)) : undoF v f o acc l = undoF v (f - 1) (o + n) (acc ++ m) (l.drop n) := by
  obtain ⟨g, rfl⟩ : ∃ g, f = g + 1 := ⟨f - 1, by omega⟩
  simp [undoF, hl, hs]
end E
end Go.Proofs.YtidccohjehegjaaDoor
namespace Go.Proofs.YtidccohjehegjaaDoor
namespace E
open G
theorem pre_no {p l : List UInt8} (k : Nat) (hk : k < p.length) (h : peekV l k ≠ (p[k].toNat : Int)) : preB p l = false := by
  rw [Bool.eq_false_iff]
  exact fun q => h (pre_at q k hk)
theorem ref_at35 (l : List UInt8) (h : peekV l 1 = 35) : refL l = if peekV l 2 = 120 then numL 16 3 l else numL 10 2 l := by
  have a1 : preB amp l = false := pre_no 1 (by decide) (by rw [h]; decide)
  have a2 : preB lt l = false := pre_no 1 (by decide) (by rw [h]; decide)
  have a3 : preB gt l = false := pre_no 1 (by decide) (by rw [h]; decide)
  have a4 : preB quot l = false := pre_no 1 (by decide) (by rw [h]; decide)
  have a5 : preB apos l = false := pre_no 1 (by decide) (by rw [h]; decide)
  simp [refL, a1, a2, a3, a4, a5, h]
theorem ref_atl (l : List UInt8) (h : peekV l 1 = 108) (b : Bool) (hb : preB lt l = b) : refL l = (bif b then 60 else 0, bif b then 4 else 0) := by
  have a1 : preB amp l = false := pre_no 1 (by decide) (by rw [h]; decide)
  have a3 : preB gt l = false := pre_no 1 (by decide) (by rw [h]; decide)
  have a4 : preB quot l = false := pre_no 1 (by decide) (by rw [h]; decide)
  have a5 : preB apos l = false := pre_no 1 (by decide) (by rw [h]; decide)
  cases b <;> simp [refL, a1, hb, a3, a4, a5, h]
theorem ref_atg (l : List UInt8) (h : peekV l 1 = 103) (b : Bool) (hb : preB gt l = b) : refL l = (bif b then 62 else 0, bif b then 4 else 0) := by
  have a1 : preB amp l = false := pre_no 1 (by decide) (by rw [h]; decide)
  have a3 : preB lt l = false := pre_no 1 (by decide) (by rw [h]; decide)
  have a4 : preB quot l = false := pre_no 1 (by decide) (by rw [h]; decide)
  have a5 : preB apos l = false := pre_no 1 (by decide) (by rw [h]; decide)
  cases b <;> simp [refL, a1, hb, a3, a4, a5, h]
theorem ref_atq (l : List UInt8) (h : peekV l 1 = 113) (b : Bool) (hb : preB quot l = b) : refL l = (bif b then 34 else 0, bif b then 6 else 0) := by
  have a1 : preB amp l = false := pre_no 1 (by decide) (by rw [h]; decide)
  have a3 : preB lt l = false := pre_no 1 (by decide) (by rw [h]; decide)
  have a4 : preB gt l = false := pre_no 1 (by decide) (by rw [h]; decide)
  have a5 : preB apos l = false := pre_no 1 (by decide) (by rw [h]; decide)
  cases b <;> simp [refL, a1, hb, a3, a4, a5, h]
theorem ref_atam (l : List UInt8) (h : peekV l 1 = 97) (h2 : peekV l 2 = 109) (b : Bool) (hb : preB amp l = b) : refL l = (bif b then 38 else 0, bif b then 5 else 0) := by
  have a1 : preB quot l = false := pre_no 1 (by decide) (by rw [h]; decide)
  have a3 : preB lt l = false := pre_no 1 (by decide) (by rw [h]; decide)
  have a4 : preB gt l = false := pre_no 1 (by decide) (by rw [h]; decide)
  have a5 : preB apos l = false := pre_no 2 (by decide) (by rw [h2]; decide)
  cases b <;> simp [refL, a1, hb, a3, a4, a5, h]
theorem ref_atap (l : List UInt8) (h : peekV l 1 = 97) (h2 : peekV l 2 = 112) (b : Bool) (hb : preB apos l = b) : refL l = (bif b then 39 else 0, bif b then 6 else 0) := by
  have a1 : preB quot l = false := pre_no 1 (by decide) (by rw [h]; decide)
  have a3 : preB lt l = false := pre_no 1 (by decide) (by rw [h]; decide)
  have a4 : preB gt l = false := pre_no 1 (by decide) (by rw [h]; decide)
  have a5 : preB amp l = false := pre_no 2 (by decide) (by rw [h2]; decide)
  cases b <;> simp [refL, a1, hb, a3, a4, a5, h]
theorem ref_ata (l : List UInt8) (h : peekV l 1 = 97) (h2 : peekV l 2 ≠ 109) (h3 : peekV l 2 ≠ 112) : refL l = (0, 0) := by
  have a1 : preB quot l = false := pre_no 1 (by decide) (by rw [h]; decide)
  have a3 : preB lt l = false := pre_no 1 (by decide) (by rw [h]; decide)
  have a4 : preB gt l = false := pre_no 1 (by decide) (by rw [h]; decide)
  have a5 : preB amp l = false := pre_no 2 (by decide) h2
  have a6 : preB apos l = false := pre_no 2 (by decide) h3
  simp [refL, a1, a3, a4, a5, a6, h]
theorem ref_atno (l : List UInt8) (x0 : peekV l 1 ≠ 35) (x1 : peekV l 1 ≠ 97) (x2 : peekV l 1 ≠ 108) (x3 : peekV l 1 ≠ 103) (x4 : peekV l 1 ≠ 113) : refL l = (0, 0) := by
  have a1 : preB amp l = false := pre_no 1 (by decide) x1
  have a2 : preB lt l = false := pre_no 1 (by decide) x2
  have a3 : preB gt l = false := pre_no 1 (by decide) x3
  have a4 : preB quot l = false := pre_no 1 (by decide) x4
  have a5 : preB apos l = false := pre_no 1 (by decide) x1
  simp [refL, a1, a2, a3, a4, a5, x0]
theorem instead_len (c : Int) (v : Bool) : (insteadL c v).length ≤ 6 := by
  unfold insteadL
  repeat' split
  all_goals decide
theorem esc_len (v : Bool) (c : Int) : (escC v c).length ≤ 6 := by
  unfold escC
  split
  · have := putL_len c; omega
  · exact instead_len c v
theorem esc_self {v : Bool} {c : Int} (h : insteadL c v = []) : escC v c = putL c := by simp [escC, h]
theorem esc_other {v : Bool} {c : Int} (h : insteadL c v ≠ []) : escC v c = insteadL c v := by simp [escC, h]
/-- A step by its three ways. -/
theorem step_ref {v : Bool} {l : List UInt8} {c : Int} {n : Nat} (hn : (nextL l).1 = 38) (h : refL l = (c, n)) : stepU v l = if n = 0 then ([], 0, 20) else if charB c = false then ([], 0, 21) else (putL c, n, 0) := by
  simp [stepU, hn, h]
theorem step_form {v : Bool} {l : List UInt8} (hn : (nextL l).1 = 60 ∨ (nextL l).1 = 62) : stepU v l = ([], 0, 20) := by
  unfold stepU
  rw [if_neg (by omega), if_pos hn]
theorem step_char {v : Bool} {l : List UInt8} (h1 : (nextL l).1 ≠ 38) (h2 : (nextL l).1 ≠ 60) (h3 : (nextL l).1 ≠ 62) (hn : (nextL l).2 = 0 ∨ insteadL (nextL l).1 v ≠ []) : stepU v l = ([], 0, 21) := by
  unfold stepU
  rw [if_neg h1, if_neg (by omega), if_pos hn]
theorem step_self {v : Bool} {l : List UInt8} (h1 : (nextL l).1 ≠ 38) (h2 : (nextL l).1 ≠ 60) (h3 : (nextL l).1 ≠ 62) (hn : (nextL l).2 ≠ 0) (hi : insteadL (nextL l).1 v = []) : stepU v l = (l.take (nextL l).2, (nextL l).2, 0) := by
  unfold stepU
  rw [if_neg h1, if_neg (by omega), if_neg (by rw [not_or]; exact ⟨hn, fun q => q hi⟩)]
end E
end Go.Proofs.YtidccohjehegjaaDoor
namespace Go.Proofs.YtidccohjehegjaaDoor
namespace E
open G
theorem chars_flat (n : Nat) : ∀ (l : List UInt8) (cs : List Int), l.length ≤ n → chars l = some cs → cs.flatMap putL = l ∧ ∀ c ∈ cs, charB c = true := by
  induction n with
  | zero =>
    intro l cs hn h
    have : l = [] := by simpa using hn
    subst this
    rw [chars_nil] at h
    cases h
    simp
  | succ n ih =>
    intro l cs hn h
    by_cases e : l = []
    · subst e; rw [chars_nil] at h; cases h; simp
    · by_cases z : (nextL l).2 = 0
      · rw [chars_none l e z] at h; cases h
      · rw [chars_cons l e z] at h
        obtain ⟨zs, hz, rfl⟩ := Option.map_eq_some_iff.1 h
        have hle := next_le l
        obtain ⟨q1, q2⟩ := ih (l.drop (nextL l).2) zs (by simp; omega) hz
        obtain ⟨p1, p2⟩ := next_putL l (nextL l).1 (nextL l).2 rfl z
        constructor
        · rw [List.flatMap_cons, p2, q1, List.take_append_drop]
        · intro c hc
          rcases List.mem_cons.1 hc with rfl | hc
          · exact p1
          · exact q2 c hc
theorem put38 : putL 38 = [38] := by decide
theorem next38 (t : List UInt8) : (nextL (38 :: t)).1 = 38 := by
  have := put_next 38 (by decide) t
  rw [put38] at this
  rw [show (38 :: t : List UInt8) = [38] ++ t from rfl, this]
theorem next38' {l : List UInt8} (t : List UInt8) (h : l = 38 :: t) : (nextL l).1 = 38 := by rw [h]; exact next38 t
theorem peek0 (a : UInt8) (t : List UInt8) : peekV (a :: t) 0 = (a.toNat : Int) := by simp [peekV, at']
theorem peekS (a : UInt8) (t : List UInt8) (k : Nat) : peekV (a :: t) (k + 1) = peekV t k := by simp [peekV, at']
theorem step_amp (v : Bool) (t : List UInt8) : stepU v (amp ++ t) = (putL 38, 5, 0) := by
  have h : refL (amp ++ t) = (38, 5) := by simp [refL, preB, amp, List.isPrefixOf]
  rw [step_ref (l := amp ++ t) (next38' ([97, 109, 112, 59] ++ t) rfl) h, if_neg (by decide), if_neg (by decide)]
theorem step_lt (v : Bool) (t : List UInt8) : stepU v (lt ++ t) = (putL 60, 4, 0) := by
  have h : refL (lt ++ t) = (60, 4) := by simp [refL, preB, amp, lt, List.isPrefixOf]
  rw [step_ref (l := lt ++ t) (next38' ([108, 116, 59] ++ t) rfl) h, if_neg (by decide), if_neg (by decide)]
theorem step_gt (v : Bool) (t : List UInt8) : stepU v (gt ++ t) = (putL 62, 4, 0) := by
  have h : refL (gt ++ t) = (62, 4) := by simp [refL, preB, amp, lt, gt, List.isPrefixOf]
  rw [step_ref (l := gt ++ t) (next38' ([103, 116, 59] ++ t) rfl) h, if_neg (by decide), if_neg (by decide)]
theorem step_quot (v : Bool) (t : List UInt8) : stepU v (quot ++ t) = (putL 34, 6, 0) := by
  have h : refL (quot ++ t) = (34, 6) := by simp [refL, preB, amp, lt, gt, quot, List.isPrefixOf]
  rw [step_ref (l := quot ++ t) (next38' ([113, 117, 111, 116, 59] ++ t) rfl) h, if_neg (by decide), if_neg (by decide)]
theorem step_num (v : Bool) (l : List UInt8) (c : Int) (n : Nat) (h0 : (nextL l).1 = 38) (h1 : peekV l 1 = 35) (h2 : peekV l 2 ≠ 120) (h : numL 10 2 l = (c, n)) (hn : n ≠ 0) (hc : charB c = true) : stepU v l = (putL c, n, 0) := by
  have e : refL l = (c, n) := by rw [ref_at35 l h1, if_neg h2, h]
  rw [step_ref h0 e, if_neg hn, if_neg (by rw [hc]; simp)]
theorem step_13 (v : Bool) (t : List UInt8) : stepU v (r13 ++ t) = (putL 13, 5, 0) := by
  have e : numL 10 2 (r13 ++ t) = (13, 5) := by
    have := num_yes (base := 10) (by decide) (o := 2) (l := r13 ++ t) (k := 2) (by decide) (by rw [numB_iff]; simp [r13, allD, peekS, peek0]; decide)
    rw [this]
    simp [r13, valD, peekS, peek0]
    decide
  exact step_num v _ 13 5 (next38' ([35, 49, 51, 59] ++ t) rfl) (by simp [r13, peekS, peek0]) (by simp [r13, peekS, peek0]) e (by decide) (by decide)
theorem step_10 (v : Bool) (t : List UInt8) : stepU v (r10 ++ t) = (putL 10, 5, 0) := by
  have e : numL 10 2 (r10 ++ t) = (10, 5) := by
    have := num_yes (base := 10) (by decide) (o := 2) (l := r10 ++ t) (k := 2) (by decide) (by rw [numB_iff]; simp [r10, allD, peekS, peek0]; decide)
    rw [this]
    simp [r10, valD, peekS, peek0]
    decide
  exact step_num v _ 10 5 (next38' ([35, 49, 48, 59] ++ t) rfl) (by simp [r10, peekS, peek0]) (by simp [r10, peekS, peek0]) e (by decide) (by decide)
theorem step_9 (v : Bool) (t : List UInt8) : stepU v (r9 ++ t) = (putL 9, 4, 0) := by
  have e : numL 10 2 (r9 ++ t) = (9, 4) := by
    have := num_yes (base := 10) (by decide) (o := 2) (l := r9 ++ t) (k := 1) (by decide) (by rw [numB_iff]; simp [r9, allD, peekS, peek0]; decide)
    rw [this]
    simp [r9, valD, peekS, peek0]
    decide
  exact step_num v _ 9 4 (next38' ([35, 57, 59] ++ t) rfl) (by simp [r9, peekS, peek0]) (by simp [r9, peekS, peek0]) e (by decide) (by decide)
/-- Where nothing stands instead of a character, it is none of those that mean something. -/
theorem self_ne {c : Int} {v : Bool} (h : insteadL c v = []) : c ≠ 38 ∧ c ≠ 60 ∧ c ≠ 62 ∧ c ≠ 13 ∧ (v = true → c ≠ 34 ∧ c ≠ 9 ∧ c ≠ 10) := by
  refine ⟨?_, ?_, ?_, ?_, ?_⟩
  · rintro rfl; revert h; cases v <;> decide
  · rintro rfl; revert h; cases v <;> decide
  · rintro rfl; revert h; cases v <;> decide
  · rintro rfl; revert h; cases v <;> decide
  · rintro rfl
    refine ⟨?_, ?_, ?_⟩
    · rintro rfl; revert h; decide
    · rintro rfl; revert h; decide
    · rintro rfl; revert h; decide
theorem instead_cases (c : Int) (v : Bool) (h : insteadL c v ≠ []) : (c = 38 ∧ insteadL c v = amp) ∨ (c = 60 ∧ insteadL c v = lt) ∨ (c = 62 ∧ insteadL c v = gt) ∨ (c = 13 ∧ insteadL c v = r13) ∨ (c = 34 ∧ v = true ∧ insteadL c v = quot) ∨ (c = 9 ∧ v = true ∧ insteadL c v = r9) ∨ (c = 10 ∧ v = true ∧ insteadL c v = r10) := by
  unfold insteadL at *
  repeat' (split at h)
  all_goals simp_all
theorem step_esc (v : Bool) (c : Int) (hc : charB c = true) (t : List UInt8) : stepU v (escC v c ++ t) = (putL c, (escC v c).length, 0) := by
  by_cases h : insteadL c v = []
  · rw [esc_self h]
    have hn := put_next c hc t
    obtain ⟨a1, a2, a3, _, _⟩ := self_ne h
    have n1 : (nextL (putL c ++ t)).1 = c := by rw [hn]
    have n2 : (nextL (putL c ++ t)).2 = (putL c).length := by rw [hn]; simp [putL]
    have := putL_len c
    rw [step_self (v := v) (by rw [n1]; exact a1) (by rw [n1]; exact a2) (by rw [n1]; exact a3) (by rw [n2]; omega) (by rw [n1]; exact h), n2]
    simp
  · rw [esc_other h]
    rcases instead_cases c v h with ⟨rfl, e⟩ | ⟨rfl, e⟩ | ⟨rfl, e⟩ | ⟨rfl, e⟩ | ⟨rfl, rfl, e⟩ | ⟨rfl, rfl, e⟩ | ⟨rfl, rfl, e⟩
    · rw [e, step_amp]; rfl
    · rw [e, step_lt]; rfl
    · rw [e, step_gt]; rfl
    · rw [e, step_13]; rfl
    · rw [e, step_quot]; rfl
    · rw [e, step_9]; rfl
    · rw [e, step_10]; rfl
theorem esc_ne (v : Bool) (c : Int) : 1 ≤ (escC v c).length := by
  unfold escC
  split
  · exact (putL_len c).1
  · rename_i h
    have : (insteadL c v).length ≠ 0 := fun q => h (List.eq_nil_of_length_eq_zero q)
    omega
theorem undo_esc (v : Bool) : ∀ (cs : List Int) (f o : Nat) (acc : List UInt8), (∀ c ∈ cs, charB c = true) → (cs.flatMap (escC v)).length < f → undoF v f o acc (cs.flatMap (escC v)) = (acc ++ cs.flatMap putL, o + (cs.flatMap (escC v)).length, 0)
  | [], f, o, acc, _, _ => by simp [undoF_nil]
  | c :: cs, f, o, acc, hc, hf => by
    have e := step_esc v c (hc c (by simp)) (cs.flatMap (escC v))
    have hl := esc_ne v c
    rw [List.flatMap_cons] at hf ⊢
    rw [List.length_append] at hf
    rw [undoF_ok (by intro q; have := congrArg List.length q; simp at this; have := this.1; rw [this] at hl; simp at hl) (by rw [List.length_append]; omega) e]
    rw [List.drop_left, undo_esc v cs (f - 1) _ _ (fun x hx => hc x (List.mem_cons_of_mem _ hx)) (by omega)]
    simp
    omega
/-- P2.3. -/
theorem back (v : Bool) (l m : List UInt8) (h : escL v l = some m) : undoL v m = (l, m.length, 0) := by
  unfold escL at h
  obtain ⟨cs, hc, rfl⟩ := Option.map_eq_some_iff.1 h
  obtain ⟨a, b⟩ := chars_flat _ l cs (Nat.le_refl _) hc
  unfold undoL
  rw [undo_esc v cs _ 0 [] b (by omega), a]
  simp
theorem putN_high (c : Int) (h0 : 128 ≤ c) (h1 : c ≤ 1114111) : ∀ x ∈ putN c, 128 ≤ x ∧ x < 256 := by
  intro x hx
  unfold putN at hx
  split at hx
  · omega
  · split at hx
    · simp at hx; omega
    · split at hx <;> (simp at hx; omega)
def plainB (b : UInt8) : Bool := b != 60 && b != 62 && b != 34 && b != 9 && b != 10 && b != 13
theorem plain_of {b : UInt8} (h : ∀ k ∈ [60, 62, 34, 9, 10, 13], b.toNat ≠ k) : plainB b = true := by
  unfold plainB
  simp only [Bool.and_eq_true, bne_iff_ne, ne_eq]
  refine ⟨⟨⟨⟨⟨?_, ?_⟩, ?_⟩, ?_⟩, ?_⟩, ?_⟩ <;> (rintro rfl; revert h; decide)
theorem esc_plain (c : Int) (hc : charB c = true) : ∀ b ∈ escC true c, plainB b = true := by
  intro b hb
  by_cases h : insteadL c true = []
  · rw [esc_self h] at hb
    obtain ⟨a1, a2, a3, a4, a5⟩ := self_ne h
    obtain ⟨a6, a7, a8⟩ := a5 rfl
    have hr := char_range c hc
    have hb2 : (b.toNat : Int) ∈ nums (putL c) := by unfold nums; exact List.mem_map_of_mem hb
    rw [nums_putL c (by omega) hr.2] at hb2
    by_cases small : c < 128
    · rw [put1 c small] at hb2
      simp at hb2
      refine plain_of fun k hk => ?_
      simp at hk
      omega
    · have := putN_high c (by omega) hr.2 _ hb2
      refine plain_of fun k hk => ?_
      simp at hk
      omega
  · rw [esc_other h] at hb
    rcases instead_cases c true h with ⟨_, e⟩ | ⟨_, e⟩ | ⟨_, e⟩ | ⟨_, e⟩ | ⟨_, _, e⟩ | ⟨_, _, e⟩ | ⟨_, _, e⟩
    all_goals
      rw [e] at hb
      revert hb b
      decide
theorem escL_plain (l m : List UInt8) (h : escL true l = some m) : ∀ b ∈ m, plainB b = true := by
  unfold escL at h
  obtain ⟨cs, hc, rfl⟩ := Option.map_eq_some_iff.1 h
  obtain ⟨_, q⟩ := chars_flat _ l cs (Nat.le_refl _) hc
  intro b hb
  obtain ⟨c, hc, hb⟩ := List.mem_flatMap.1 hb
  exact esc_plain c (q c hc) b hb
theorem put_le (v : Bool) (c : Int) : (putL c).length ≤ (escC v c).length := by
  unfold escC
  split
  · exact Nat.le_refl _
  · rename_i h
    rcases instead_cases c v h with ⟨rfl, e⟩ | ⟨rfl, e⟩ | ⟨rfl, e⟩ | ⟨rfl, e⟩ | ⟨rfl, _, e⟩ | ⟨rfl, _, e⟩ | ⟨rfl, _, e⟩ <;> (rw [e]; decide)
theorem esc_le (c : Int) : (escC false c).length ≤ (escC true c).length := by
  by_cases h : insteadL c false = []
  · rw [esc_self h]; exact put_le true c
  · have : insteadL c true = insteadL c false := by
      rcases instead_cases c false h with ⟨rfl, _⟩ | ⟨rfl, _⟩ | ⟨rfl, _⟩ | ⟨rfl, _⟩ | ⟨_, q, _⟩ | ⟨_, q, _⟩ | ⟨_, q, _⟩
      all_goals first | rfl | cases q
    rw [esc_other h, esc_other (by rw [this]; exact h), this]
    exact Nat.le_refl _
theorem flat_le (f g : Int → List UInt8) (h : ∀ c, (f c).length ≤ (g c).length) : ∀ cs : List Int, (cs.flatMap f).length ≤ (cs.flatMap g).length
  | [] => by simp
  | c :: cs => by
    have := flat_le f g h cs
    have := h c
    simp only [List.flatMap_cons, List.length_append]
    omega
theorem longer (l : List UInt8) (cs : List Int) (h : chars l = some cs) : l.length ≤ (cs.flatMap (escC false)).length ∧ (cs.flatMap (escC false)).length ≤ (cs.flatMap (escC true)).length := by
  obtain ⟨a, _⟩ := chars_flat _ l cs (Nat.le_refl _) h
  refine ⟨?_, flat_le _ _ esc_le cs⟩
  conv => lhs; rw [← a]
  exact flat_le _ _ (put_le false) cs
theorem flat_six (v : Bool) : ∀ cs : List Int, (cs.flatMap (escC v)).length ≤ 6 * cs.length
  | [] => by simp
  | c :: cs => by
    have := flat_six v cs
    have := esc_len v c
    simp only [List.flatMap_cons, List.length_append, List.length_cons]
    omega
theorem escL_len (v : Bool) (l m : List UInt8) (h : escL v l = some m) : m.length ≤ 6 * l.length := by
  unfold escL at h
  obtain ⟨cs, hc, rfl⟩ := Option.map_eq_some_iff.1 h
  have := flat_six v cs
  have := chars_len _ l cs (Nat.le_refl _) hc
  omega
theorem joins (v : Bool) (a b x y : List UInt8) (ha : escL v a = some x) (hb : escL v b = some y) : escL v (a ++ b) = some (x ++ y) := by
  unfold escL at *
  obtain ⟨xs, hx, rfl⟩ := Option.map_eq_some_iff.1 ha
  obtain ⟨ys, hy, rfl⟩ := Option.map_eq_some_iff.1 hb
  rw [chars_append a b _ xs ys (Nat.le_refl _) hx hy]
  simp
end E
end Go.Proofs.YtidccohjehegjaaDoor
namespace Go.Proofs.YtidccohjehegjaaDoor
namespace L
open G E
def blankB (c : UInt8) : Bool := c == 32 || c == 9 || c == 10
def wordB (c : UInt8) : Bool := !(blankB c) && c != 61 && c != 62 && c != 60 && c != 47 && c != 34
def notB (b c : UInt8) : Bool := c != b
/-- The place behind all bytes of a kind, from a place on. -/
def runP (p : UInt8 → Bool) (s : ByteArray) (i : Nat) : Nat := i + ((s.data.toList.drop i).takeWhile p).length
/-- Does a text stand at a place? -/
def thereB (s : ByteArray) (i : Nat) (t : List UInt8) : Bool := t.isPrefixOf (s.data.toList.drop i)
abbrev Attr := ByteArray × ByteArray
def undoB (v : Bool) (b : ByteArray) : ByteArray × Nat × Int := (⟨(undoL v b.data.toList).1.toArray⟩, (undoL v b.data.toList).2.1, (undoL v b.data.toList).2.2)
def nameP (b : ByteArray) : Bool := nameB b.data.toList
structure Tok where
  kind : Int
  pos : Nat
  name : ByteArray
  text : ByteArray
  attrs : List Attr
def noB : ByteArray := ⟨#[]⟩
abbrev Bad := Int × Int
/-- Is a name ahead of another one? -/
def ltB (a b : ByteArray) : Bool := decide (a.data.toList < b.data.toList)
/-- An attribute among others that rise: ahead of the first one with a greater name. -/
def insA (a : Attr) : List Attr → List Attr
  | [] => [a]
  | b :: l => if ltB a.1 b.1 = true then a :: b :: l else b :: insA a l
def sortA (l : List Attr) : List Attr := l.foldl (fun acc a => insA a acc) []
def textP (s : ByteArray) (i : Nat) : Except Bad (Tok × Nat) :=
  let j := runP (notB 60) s i
  let u := undoB false (s.extract i j)
  if u.2.2 ≠ 0 then .error (((i + u.2.1 : Nat) : Int), u.2.2) else if 1500 < u.1.size then .error ((i : Int), 34)
  else .ok (⟨4, i, noB, u.1, []⟩, j)
def endP (s : ByteArray) (i : Nat) : Except Bad (Tok × Nat) :=
  let j := runP wordB s (i + 2)
  let k := runP blankB s j
  if nameP (s.extract (i + 2) j) = false then .error (((i + 2 : Nat) : Int), 31)
  else if thereB s k [62] = true then .ok (⟨2, i, s.extract (i + 2) j, noB, []⟩, k + 1) else .error ((k : Int), 30)
def attrP (s : ByteArray) (i : Nat) (acc : List Attr) : Except Bad (Attr × Nat) :=
  let j := runP wordB s i
  let n := s.extract i j
  let k := runP (notB 34) s (j + 2)
  let u := undoB true (s.extract (j + 2) k)
  if nameP n = false then .error ((i : Int), 31)
  else if 20 ≤ acc.length then .error ((i : Int), 33)
  else if (acc.any fun a => decide (a.1 = n)) = true then .error ((i : Int), 32)
  else if thereB s j [61] = false then .error ((j : Int), 30)
  else if thereB s (j + 1) [34] = false then .error (((j + 1 : Nat) : Int), 30)
  else if s.size ≤ k then .error ((k : Int), 30)
  else if u.2.2 ≠ 0 then .error (((j + 2 + u.2.1 : Nat) : Int), u.2.2)
  else if 1500 < u.1.size then .error (((j + 1 : Nat) : Int), 34)
  else .ok ((n, u.1), k + 1)
/-- Should an attribute be behind the blanks from i to k? -/
def moreB (s : ByteArray) (i k : Nat) : Bool := decide (i < k) && decide (k < s.size) && !thereB s k [62] && !thereB s k [47, 62]
def attrsF : Nat → ByteArray → Nat → List Attr → Except Bad (List Attr × Nat)
  | 0, _, i, acc => .ok (acc, i)
  | f + 1, s, i, acc => if moreB s i (runP blankB s i) = true then
      (match attrP s (runP blankB s i) acc with
        | .error e => .error e
        | .ok (a, n) => attrsF f s n (acc ++ [a]))
      else .ok (acc, runP blankB s i)
def begP (s : ByteArray) (i : Nat) : Except Bad (Tok × Nat) :=
  let j := runP wordB s (i + 1)
  let n := s.extract (i + 1) j
  if nameP n = false then .error (((i + 1 : Nat) : Int), 31)
  else match attrsF (s.size + 1) s j [] with
    | .error e => .error e
    | .ok (acc, k) => if thereB s k [62] = true then .ok (⟨1, i, n, noB, sortA acc⟩, k + 1)
      else if thereB s k [47, 62] = true then .ok (⟨3, i, n, noB, sortA acc⟩, k + 2) else .error ((k : Int), 30)
def oneN (s : ByteArray) (i : Nat) : Except Bad (Tok × Nat) :=
  if thereB s i [60, 47] = true then endP s i else if thereB s i [60] = true then begP s i else textP s i
/-- The token at a place, and the place behind it; or the place of what is amiss, and how. -/
def oneP (s : ByteArray) (z : Int) : Except Bad (Tok × Nat) := if z < 0 ∨ (s.size : Int) ≤ z then .error (z, 30) else oneN s z.toNat
def allF : Nat → ByteArray → Nat → List Tok → Except Bad (List Tok)
  | 0, _, _, acc => .ok acc
  | f + 1, s, i, acc => if s.size ≤ i then .ok acc else match oneN s i with
    | .error e => .error e
    | .ok (t, n) => allF f s n (acc ++ [t])
def allP (s : ByteArray) : Except Bad (List Tok) := allF (s.size + 1) s 0 []

theorem drop_at (s : ByteArray) (i : Nat) (h : i < s.size) : s.data.toList.drop i = s[i] :: s.data.toList.drop (i + 1) := by
  have := List.drop_eq_getElem_cons (l := s.data.toList) (i := i) (by simpa using h)
  rw [this]
  rfl
theorem drop_end (s : ByteArray) (i : Nat) (h : s.size ≤ i) : s.data.toList.drop i = [] := List.drop_eq_nil_of_le (by simpa using h)
theorem run_yes {p : UInt8 → Bool} {s : ByteArray} {i : Nat} (h : i < s.size) (hp : p s[i] = true) : runP p s i = runP p s (i + 1) := by
  unfold runP
  rw [drop_at s i h, List.takeWhile_cons_of_pos hp]
  simp
  omega
theorem run_no {p : UInt8 → Bool} {s : ByteArray} {i : Nat} (h : i < s.size) (hp : p s[i] = false) : runP p s i = i := by
  unfold runP
  rw [drop_at s i h, List.takeWhile_cons_of_neg (by simp [hp])]
  simp
theorem run_end {p : UInt8 → Bool} {s : ByteArray} {i : Nat} (h : s.size ≤ i) : runP p s i = i := by
  unfold runP
  rw [drop_end s i h]
  simp
theorem run_ge (p : UInt8 → Bool) (s : ByteArray) (i : Nat) : i ≤ runP p s i := by unfold runP; omega
theorem run_le {p : UInt8 → Bool} {s : ByteArray} {i : Nat} (h : i ≤ s.size) : runP p s i ≤ s.size := by
  unfold runP
  have h1 := (List.takeWhile_prefix p (l := s.data.toList.drop i)).length_le
  simp only [List.length_drop, Array.length_toList, ByteArray.size_data] at h1
  omega
theorem run_stop {p : UInt8 → Bool} {s : ByteArray} {i : Nat} (h : runP p s i < s.size) : p (s[runP p s i]'h) = false := by
  by_cases hp : p (s[runP p s i]'h) = false
  · exact hp
  · exfalso
    have key : ∀ (l : List UInt8) (hl : (l.takeWhile p).length < l.length), p (l[(l.takeWhile p).length]'hl) = false := by
      intro l
      induction l with
      | nil => intro hl; simp at hl
      | cons a t ih =>
        intro hl
        by_cases ha : p a = true
        · simp only [List.takeWhile_cons_of_pos ha] at hl ⊢
          simpa using ih (by simpa using hl)
        · simp only [List.takeWhile_cons_of_neg ha] at hl ⊢
          simpa using ha
    have hl : ((s.data.toList.drop i).takeWhile p).length < (s.data.toList.drop i).length := by
      simp only [List.length_drop, Array.length_toList, ByteArray.size_data]
      unfold runP at h
      omega
    have := key _ hl
    rw [List.getElem_drop] at this
    exact hp this
theorem run_in {p : UInt8 → Bool} {s : ByteArray} {i k : Nat} (h1 : i ≤ k) (h2 : k < runP p s i) (h : k < s.size) : p (s[k]'h) = true := by
  have hl : k - i < ((s.data.toList.drop i).takeWhile p).length := by unfold runP at h2; omega
  have hm := List.getElem_mem (l := (s.data.toList.drop i).takeWhile p) hl
  have h3 : p ((s.data.toList.drop i).takeWhile p)[k - i] = true := List.all_eq_true.1 List.all_takeWhile _ hm
  have h4 := (List.takeWhile_prefix p (l := s.data.toList.drop i)).getElem hl
  rw [h4, List.getElem_drop] at h3
  have : i + (k - i) = k := by omega
  simp only [this] at h3
  exact h3
theorem there1 (s : ByteArray) (i : Nat) (c : UInt8) (h : i < s.size) : thereB s i [c] = (c == s[i]) := by
  unfold thereB
  rw [drop_at s i h]
  simp [List.isPrefixOf]
theorem there_end (s : ByteArray) (i : Nat) (c : UInt8) (t : List UInt8) (h : s.size ≤ i) : thereB s i (c :: t) = false := by
  unfold thereB
  rw [drop_end s i h]
  simp [List.isPrefixOf]
theorem there_cons (s : ByteArray) (i : Nat) (c : UInt8) (t : List UInt8) (h : i < s.size) : thereB s i (c :: t) = (c == s[i] && thereB s (i + 1) t) := by
  unfold thereB
  rw [drop_at s i h]
  simp [List.isPrefixOf]
theorem there_nil (s : ByteArray) (i : Nat) : thereB s i [] = true := by simp [thereB, List.isPrefixOf]
theorem there_lt {s : ByteArray} {i : Nat} {c : UInt8} {t : List UInt8} (h : thereB s i (c :: t) = true) : i < s.size := by
  by_cases hi : i < s.size
  · exact hi
  · rw [there_end s i c t (by omega)] at h; cases h
theorem there_len {s : ByteArray} {i : Nat} {t : List UInt8} (h : thereB s i t = true) : t.length ≤ s.size - i := by
  have := (List.isPrefixOf_iff_prefix.1 h).length_le
  simpa using this
end L
end Go.Proofs.YtidccohjehegjaaDoor
namespace Go.Proofs.YtidccohjehegjaaDoor
namespace L
open G E
theorem chars_put (c : Int) (hc : charB c = true) : chars (putL c) = some [c] := by
  have h := put_next c hc []
  simp only [List.append_nil] at h
  have hl := putN_len c
  have hne : putL c ≠ [] := by simpa using put_ne c []
  rw [chars_cons _ hne (by rw [h]; simp only; omega), h]
  have : (putL c).drop (putN c).length = [] := by simp [putL]
  simp [this, chars_nil]
theorem step_chars (v : Bool) (l : List UInt8) (h : (stepU v l).2.2 = 0) : ∃ c, chars (stepU v l).1 = some [c] := by
  unfold stepU at h ⊢
  by_cases h1 : (nextL l).1 = 38
  · simp only [h1, if_true] at h ⊢
    by_cases h2 : (refL l).2 = 0
    · simp [h2] at h
    · by_cases h3 : charB (refL l).1 = false
      · simp [h2, h3] at h
      · simp only [h2, h3, if_false]
        exact ⟨_, chars_put _ (by simpa using h3)⟩
  · simp only [h1, if_false] at h ⊢
    by_cases h2 : (nextL l).1 = 60 ∨ (nextL l).1 = 62
    · simp [h2] at h
    · simp only [h2, if_false] at h ⊢
      by_cases h3 : (nextL l).2 = 0 ∨ insteadL (nextL l).1 v ≠ []
      · rw [if_pos h3] at h; simp at h
      · rw [if_neg h3]
        have hn : (nextL l).2 ≠ 0 := fun q => h3 (Or.inl q)
        obtain ⟨p1, p2⟩ := next_putL l (nextL l).1 (nextL l).2 rfl hn
        exact ⟨(nextL l).1, by rw [← p2]; exact chars_put _ p1⟩
theorem undoF_chars (v : Bool) : ∀ (f o : Nat) (acc l r : List UInt8) (k : Nat) (xs : List Int), undoF v f o acc l = (r, k, 0) → chars acc = some xs → ∃ ys, chars r = some ys ∧ xs.length ≤ ys.length ∧ (l ≠ [] → 0 < f → xs.length < ys.length)
  | 0, o, acc, l, r, k, xs, h, ha => by
    simp only [undoF, Prod.mk.injEq] at h
    obtain ⟨rfl, _, _⟩ := h
    exact ⟨xs, ha, Nat.le_refl _, fun _ h => by omega⟩
  | f + 1, o, acc, l, r, k, xs, h, ha => by
    unfold undoF at h
    by_cases hl : l = []
    · simp only [hl, if_true, Prod.mk.injEq] at h
      obtain ⟨rfl, _, _⟩ := h
      exact ⟨xs, ha, Nat.le_refl _, fun h => absurd hl h⟩
    · rw [if_neg hl] at h
      by_cases hs : (stepU v l).2.2 = 0
      · rw [if_neg (by simp [hs])] at h
        obtain ⟨c, hc⟩ := step_chars v l hs
        obtain ⟨ys, h1, h2, _⟩ := undoF_chars v f _ _ _ r k (xs ++ [c]) h (chars_append acc _ acc.length xs [c] (Nat.le_refl _) ha hc)
        simp at h2
        exact ⟨ys, h1, by omega, fun _ _ => by omega⟩
      · rw [if_pos hs] at h
        simp only [Prod.mk.injEq] at h
        exact absurd h.2.2 hs
/-- What is undone is made of characters; if there was something, there is something. -/
theorem undo_chars (v : Bool) (b : ByteArray) (h : (undoB v b).2.2 = 0) : ∃ ys, chars (undoB v b).1.data.toList = some ys ∧ (b.size ≠ 0 → ys ≠ []) := by
  obtain ⟨ys, h1, _, h3⟩ := undoF_chars v _ 0 [] b.data.toList (undoL v b.data.toList).1 (undoL v b.data.toList).2.1 [] (by
    show undoL v b.data.toList = _
    have : (undoL v b.data.toList).2.2 = 0 := h
    rw [← this]) chars_nil
  refine ⟨ys, by simpa [undoB] using h1, fun hb => ?_⟩
  have := h3 (by intro q; have := congrArg List.length q; rw [Array.length_toList] at this; exact hb this) (by omega)
  intro q
  simp [q] at this
theorem count_of {l : List UInt8} {ys : List Int} (h : chars l = some ys) : ¬ countZ l < 0 := by
  unfold countZ
  rw [h]
  simp
theorem lt_irr (a : ByteArray) : ltB a a = false := by simp [ltB, List.lt_irrefl]
theorem lt_tr {a b c : ByteArray} (h : ltB a b = true) (k : ltB b c = true) : ltB a c = true := by
  simp only [ltB, decide_eq_true_eq] at *
  exact List.lt_trans h k
theorem lt_tri (a b : ByteArray) (h : ltB a b = false) (k : ltB b a = false) : a = b := by
  simp only [ltB, decide_eq_false_iff_not] at *
  have : a.data.toList = b.data.toList := List.le_antisymm k h
  cases a; cases b; simp_all
theorem less_lt : ∀ (x y : List UInt8), Op.bytesLess x y = decide (x < y)
  | _, [] => by simp [Op.bytesLess]
  | [], _ :: _ => by simp [Op.bytesLess]
  | a :: x, b :: y => by
    rw [Op.bytesLess, less_lt x y, ← Bool.decide_coe (decide (a < b) || a == b && decide (x < y))]
    congr 1
    simp [List.cons_lt_cons_iff]
theorem cmp_lt : ∀ (x y : List UInt8), decide (Lib.compareBytes x y < 0) = decide (x < y)
  | [], [] => by simp [Lib.compareBytes]
  | _ :: _, [] => by simp [Lib.compareBytes]
  | [], _ :: _ => by simp [Lib.compareBytes]
  | a :: x, b :: y => by
    have ih := cmp_lt x y
    rw [Lib.compareBytes]
    by_cases h1 : a < b
    · simp [h1, List.cons_lt_cons_iff]
    · by_cases h2 : b < a
      · have hne : a ≠ b := by intro q; subst q; exact h1 h2
        simp [h1, h2, List.cons_lt_cons_iff, hne]
      · have he : a = b := UInt8.le_antisymm (UInt8.not_lt.1 h2) (UInt8.not_lt.1 h1)
        subst he
        simp only [h1, if_false, ih]
        simp
/-- Names rise. -/
def Rise : List Attr → Prop
  | [] => True
  | a :: l => (∀ x ∈ l, ltB a.1 x.1 = true) ∧ Rise l
theorem mem_ins {a x : Attr} : ∀ {l : List Attr}, x ∈ insA a l ↔ x = a ∨ x ∈ l
  | [] => by simp [insA]
  | b :: l => by
    unfold insA
    split
    · simp
    · simp only [List.mem_cons, mem_ins (l := l)]
      constructor <;> (rintro (h | h | h) <;> simp [h])
theorem rise_ins {a : Attr} : ∀ {l : List Attr}, Rise l → (∀ x ∈ l, x.1 ≠ a.1) → Rise (insA a l)
  | [], _, _ => ⟨by simp, trivial⟩
  | b :: l, h, hn => by
    unfold insA
    by_cases hl : ltB a.1 b.1 = true
    · rw [if_pos hl]
      refine ⟨?_, h⟩
      intro x hx
      rcases List.mem_cons.1 hx with rfl | hx
      · exact hl
      · exact lt_tr hl (h.1 x hx)
    · rw [if_neg hl]
      refine ⟨?_, rise_ins h.2 fun x hx => hn x (List.mem_cons_of_mem _ hx)⟩
      intro x hx
      rcases mem_ins.1 hx with rfl | hx
      · cases hb : ltB b.1 x.1
        · exact absurd (lt_tri _ _ hb (by simpa using hl)) (hn b (List.mem_cons_self ..))
        · rfl
      · exact h.1 x hx
theorem perm_ins (a : Attr) : ∀ (l : List Attr), (insA a l).Perm (a :: l)
  | [] => List.Perm.refl _
  | b :: l => by
    unfold insA
    split
    · exact List.Perm.refl _
    · exact ((perm_ins a l).cons b).trans (List.Perm.swap a b l)
/-- No two names are the same. -/
def Apart : List Attr → Prop
  | [] => True
  | a :: l => (∀ x ∈ l, x.1 ≠ a.1) ∧ Apart l
theorem foldl_ins : ∀ (l acc : List Attr), Rise acc → Apart l → (∀ x ∈ acc, ∀ y ∈ l, x.1 ≠ y.1) → Rise (l.foldl (fun acc a => insA a acc) acc) ∧ (l.foldl (fun acc a => insA a acc) acc).Perm (l ++ acc)
  | [], acc, h, _, _ => ⟨h, List.Perm.refl _⟩
  | a :: l, acc, h, hA, hd => by
    simp only [List.foldl_cons]
    obtain ⟨h1, h2⟩ := foldl_ins l (insA a acc) (rise_ins h fun x hx => hd x hx a (List.mem_cons_self ..)) hA.2 (by
      intro x hx y hy
      rcases mem_ins.1 hx with rfl | hx
      · exact fun q => hA.1 y hy q.symm
      · exact hd x hx y (List.mem_cons_of_mem _ hy))
    refine ⟨h1, h2.trans ?_⟩
    exact ((perm_ins a acc).append_left l).trans List.perm_middle
theorem sort_rise (l : List Attr) (h : Apart l) : Rise (sortA l) ∧ (sortA l).Perm l := by
  have := foldl_ins l [] trivial h (by simp)
  simpa [sortA] using this
theorem sort_snoc (l : List Attr) (a : Attr) : sortA (l ++ [a]) = insA a (sortA l) := by simp [sortA]
theorem rise_one : ∀ {l m : List Attr}, Rise l → Rise m → l.Perm m → l = m
  | [], m, _, _, h => (List.nil_perm.1 h).symm
  | a :: l, [], _, _, h => absurd h.length_eq (by simp)
  | a :: l, b :: m, hl, hm, h => by
    have ha : a ∈ b :: m := h.subset (List.mem_cons_self ..)
    have hb : b ∈ a :: l := h.symm.subset (List.mem_cons_self ..)
    have hab : a = b := by
      rcases List.mem_cons.1 ha with q | q
      · exact q
      · rcases List.mem_cons.1 hb with r | r
        · exact r.symm
        · have h1 := hm.1 a q
          have h2 := hl.1 b r
          have := lt_tr h1 h2
          rw [lt_irr] at this
          cases this
    subst hab
    rw [rise_one hl.2 hm.2 ((List.perm_cons a).1 h)]
theorem apart_snoc {l : List Attr} {a : Attr} (h : Apart l) (hn : ∀ x ∈ l, x.1 ≠ a.1) : Apart (l ++ [a]) := by
  induction l with
  | nil => exact ⟨by simp, trivial⟩
  | cons b l ih =>
    refine ⟨?_, ih h.2 fun x hx => hn x (List.mem_cons_of_mem _ hx)⟩
    intro x hx
    rcases List.mem_append.1 hx with hx | hx
    · exact h.1 x hx
    · simp only [List.mem_singleton] at hx
      subst hx
      exact fun q => hn b (List.mem_cons_self ..) q.symm
end L
end Go.Proofs.YtidccohjehegjaaDoor
namespace Go.Proofs.YtidccohjehegjaaDoor
namespace L
open G E
theorem attr_ok {s : ByteArray} {i : Nat} {acc : List Attr} {a : Attr} {m : Nat} (h : attrP s i acc = .ok (a, m)) :
    nameP (s.extract i (runP wordB s i)) = true ∧ acc.length < 20 ∧ (acc.any fun x => decide (x.1 = s.extract i (runP wordB s i))) = false ∧ thereB s (runP wordB s i) [61] = true ∧ thereB s (runP wordB s i + 1) [34] = true ∧
    runP (notB 34) s (runP wordB s i + 2) < s.size ∧ (undoB true (s.extract (runP wordB s i + 2) (runP (notB 34) s (runP wordB s i + 2)))).2.2 = 0 ∧ (undoB true (s.extract (runP wordB s i + 2) (runP (notB 34) s (runP wordB s i + 2)))).1.size ≤ 1500 ∧
    a = (s.extract i (runP wordB s i), (undoB true (s.extract (runP wordB s i + 2) (runP (notB 34) s (runP wordB s i + 2)))).1) ∧ m = runP (notB 34) s (runP wordB s i + 2) + 1 := by
  unfold attrP at h
  simp only at h
  split at h
  · cases h
  split at h
  · cases h
  split at h
  · cases h
  split at h
  · cases h
  split at h
  · cases h
  split at h
  · cases h
  split at h
  · cases h
  split at h
  · cases h
  rename_i h1 h2 h3 h4 h5 h6 h7 h8
  simp only [Except.ok.injEq, Prod.mk.injEq] at h
  obtain ⟨e1, e2⟩ := h
  exact ⟨by simpa using h1, by omega, Bool.eq_false_iff.2 h3, by simpa using h4, by simpa using h5, by omega, by simpa using h7, by omega, e1.symm, e2.symm⟩
theorem attr_mk {s : ByteArray} {i : Nat} {acc : List Attr} (h1 : nameP (s.extract i (runP wordB s i)) = true) (h2 : acc.length < 20) (h3 : (acc.any fun x => decide (x.1 = s.extract i (runP wordB s i))) = false) (h4 : thereB s (runP wordB s i) [61] = true) (h5 : thereB s (runP wordB s i + 1) [34] = true)
    (h6 : runP (notB 34) s (runP wordB s i + 2) < s.size) (h7 : (undoB true (s.extract (runP wordB s i + 2) (runP (notB 34) s (runP wordB s i + 2)))).2.2 = 0) (h8 : (undoB true (s.extract (runP wordB s i + 2) (runP (notB 34) s (runP wordB s i + 2)))).1.size ≤ 1500) :
    attrP s i acc = .ok ((s.extract i (runP wordB s i), (undoB true (s.extract (runP wordB s i + 2) (runP (notB 34) s (runP wordB s i + 2)))).1), runP (notB 34) s (runP wordB s i + 2) + 1) := by
  unfold attrP
  simp only
  rw [if_neg (by simp [h1]), if_neg (by omega), if_neg (by simp [h3]), if_neg (by simp [h4]), if_neg (by simp [h5]), if_neg (by omega), if_neg (by simp [h7]), if_neg (by omega)]
theorem attr_go {s : ByteArray} {i : Nat} {acc : List Attr} {a : Attr} {m : Nat} (h : attrP s i acc = .ok (a, m)) : i + 2 ≤ m ∧ m ≤ s.size ∧ i < s.size := by
  obtain ⟨_, _, _, h4, h5, h6, _, _, _, rfl⟩ := attr_ok h
  have a1 := run_ge wordB s i
  have a2 := there_lt h4
  have a3 := there_lt h5
  have a4 := run_ge (notB 34) s (runP wordB s i + 2)
  omega
theorem attr_apart {s : ByteArray} {i : Nat} {acc : List Attr} {a : Attr} {m : Nat} (h : attrP s i acc = .ok (a, m)) : ∀ x ∈ acc, x.1 ≠ a.1 := by
  obtain ⟨_, _, h3, _, _, _, _, _, rfl, _⟩ := attr_ok h
  intro x hx
  have := List.any_eq_false.1 h3 x hx
  simpa using this
/-- An attribute that may be. -/
def okA (a : Attr) : Prop := nameP a.1 = true ∧ ¬ countZ a.2.data.toList < 0 ∧ a.2.size ≤ 1500
theorem attr_may {s : ByteArray} {i : Nat} {acc : List Attr} {a : Attr} {m : Nat} (h : attrP s i acc = .ok (a, m)) : okA a := by
  obtain ⟨h1, _, _, _, _, _, h7, h8, rfl, _⟩ := attr_ok h
  obtain ⟨ys, h9, _⟩ := undo_chars _ _ h7
  exact ⟨h1, count_of h9, h8⟩
theorem more_go {s : ByteArray} {i k : Nat} (h : moreB s i k = true) : i < k ∧ k < s.size ∧ thereB s k [62] = false ∧ thereB s k [47, 62] = false := by
  simpa [moreB, and_assoc] using h
theorem attrs_succ (f : Nat) (s : ByteArray) (i : Nat) (acc : List Attr) : attrsF (f + 1) s i acc = if moreB s i (runP blankB s i) = true then
      (match attrP s (runP blankB s i) acc with
        | .error e => .error e
        | .ok (a, n) => attrsF f s n (acc ++ [a]))
      else .ok (acc, runP blankB s i) := rfl
theorem attrs_stop {f : Nat} {s : ByteArray} {i : Nat} {acc : List Attr} (hf : 0 < f) (h : moreB s i (runP blankB s i) = false) : attrsF f s i acc = .ok (acc, runP blankB s i) := by
  obtain ⟨f, rfl⟩ : ∃ g, f = g + 1 := ⟨f - 1, by omega⟩
  rw [attrs_succ, if_neg (by simp [h])]
theorem attrs_bad {f : Nat} {s : ByteArray} {i : Nat} {acc : List Attr} {e : Bad} (hf : 0 < f) (h : moreB s i (runP blankB s i) = true) (ha : attrP s (runP blankB s i) acc = .error e) : attrsF f s i acc = .error e := by
  obtain ⟨f, rfl⟩ : ∃ g, f = g + 1 := ⟨f - 1, by omega⟩
  rw [attrs_succ, if_pos h, ha]
theorem attrs_next {f : Nat} {s : ByteArray} {i : Nat} {acc : List Attr} {a : Attr} {n : Nat} (hf : 0 < f) (h : moreB s i (runP blankB s i) = true) (ha : attrP s (runP blankB s i) acc = .ok (a, n)) : attrsF f s i acc = attrsF (f - 1) s n (acc ++ [a]) := by
  obtain ⟨f, rfl⟩ : ∃ g, f = g + 1 := ⟨f - 1, by omega⟩
  rw [attrs_succ, if_pos h, ha]
  rfl
theorem attrs_enough (s : ByteArray) : ∀ (f g i : Nat) (acc : List Attr), s.size - i < f → s.size - i < g → attrsF f s i acc = attrsF g s i acc
  | 0, _, _, _, h, _ => by omega
  | _ + 1, 0, _, _, _, h => by omega
  | f + 1, g + 1, i, acc, hf, hg => by
    rw [attrs_succ, attrs_succ]
    split
    · rename_i hm
      obtain ⟨m1, m2, _⟩ := more_go hm
      cases ha : attrP s (runP blankB s i) acc with
      | error e => rfl
      | ok p =>
        obtain ⟨a, n⟩ := p
        have := attr_go ha
        exact attrs_enough s f g n _ (by omega) (by omega)
    · rfl
/-- What is known of the attributes that are told. -/
theorem attrs_ok (s : ByteArray) : ∀ (f i : Nat) (acc acc' : List Attr) (k : Nat), attrsF f s i acc = .ok (acc', k) → i ≤ s.size → Apart acc → (∀ x ∈ acc, okA x) → acc.length ≤ 20 → Apart acc' ∧ (∀ x ∈ acc', okA x) ∧ acc'.length ≤ 20 ∧ i ≤ k ∧ k ≤ s.size
  | 0, i, acc, acc', k, h, hi, h1, h2, h3 => by
    simp only [attrsF, Except.ok.injEq, Prod.mk.injEq] at h
    obtain ⟨rfl, rfl⟩ := h
    exact ⟨h1, h2, h3, Nat.le_refl _, hi⟩
  | f + 1, i, acc, acc', k, h, hi, h1, h2, h3 => by
    rw [attrs_succ] at h
    split at h
    · rename_i hm
      obtain ⟨m1, m2, _⟩ := more_go hm
      cases ha : attrP s (runP blankB s i) acc with
      | error e => rw [ha] at h; cases h
      | ok p =>
        obtain ⟨a, n⟩ := p
        rw [ha] at h
        have g := attr_go ha
        have hl := (attr_ok ha).2.1
        obtain ⟨r1, r2, r3, r4, r5⟩ := attrs_ok s f n (acc ++ [a]) acc' k h g.2.1 (apart_snoc h1 (attr_apart ha)) (by
          intro x hx
          rcases List.mem_append.1 hx with hx | hx
          · exact h2 x hx
          · simp only [List.mem_singleton] at hx; subst hx; exact attr_may ha) (by simp; omega)
        exact ⟨r1, r2, r3, by omega, r5⟩
    · simp only [Except.ok.injEq, Prod.mk.injEq] at h
      obtain ⟨rfl, rfl⟩ := h
      exact ⟨h1, h2, h3, run_ge _ _ _, run_le hi⟩
end L
end Go.Proofs.YtidccohjehegjaaDoor
namespace Go.Proofs.YtidccohjehegjaaDoor
namespace L
open G E
theorem end_ok {s : ByteArray} {i : Nat} {t : Tok} {n : Nat} (h : endP s i = .ok (t, n)) : nameP (s.extract (i + 2) (runP wordB s (i + 2))) = true ∧ thereB s (runP blankB s (runP wordB s (i + 2))) [62] = true ∧
    t = ⟨2, i, s.extract (i + 2) (runP wordB s (i + 2)), noB, []⟩ ∧ n = runP blankB s (runP wordB s (i + 2)) + 1 := by
  unfold endP at h
  simp only at h
  split at h
  · cases h
  split at h
  · rename_i h1 h2
    simp only [Except.ok.injEq, Prod.mk.injEq] at h
    exact ⟨by simpa using h1, h2, h.1.symm, h.2.symm⟩
  · cases h
theorem text_ok {s : ByteArray} {i : Nat} {t : Tok} {n : Nat} (h : textP s i = .ok (t, n)) : (undoB false (s.extract i (runP (notB 60) s i))).2.2 = 0 ∧ (undoB false (s.extract i (runP (notB 60) s i))).1.size ≤ 1500 ∧
    t = ⟨4, i, noB, (undoB false (s.extract i (runP (notB 60) s i))).1, []⟩ ∧ n = runP (notB 60) s i := by
  unfold textP at h
  simp only at h
  split at h
  · cases h
  split at h
  · cases h
  · rename_i h1 h2
    simp only [Except.ok.injEq, Prod.mk.injEq] at h
    exact ⟨by simpa using h1, by omega, h.1.symm, h.2.symm⟩
theorem beg_ok {s : ByteArray} {i : Nat} {t : Tok} {n : Nat} (h : begP s i = .ok (t, n)) : nameP (s.extract (i + 1) (runP wordB s (i + 1))) = true ∧ ∃ acc k, attrsF (s.size + 1) s (runP wordB s (i + 1)) [] = .ok (acc, k) ∧
    ((thereB s k [62] = true ∧ t = ⟨1, i, s.extract (i + 1) (runP wordB s (i + 1)), noB, sortA acc⟩ ∧ n = k + 1) ∨ (thereB s k [62] = false ∧ thereB s k [47, 62] = true ∧ t = ⟨3, i, s.extract (i + 1) (runP wordB s (i + 1)), noB, sortA acc⟩ ∧ n = k + 2)) := by
  unfold begP at h
  simp only at h
  split at h
  · cases h
  · rename_i h1
    refine ⟨by simpa using h1, ?_⟩
    cases ha : attrsF (s.size + 1) s (runP wordB s (i + 1)) [] with
    | error e => rw [ha] at h; cases h
    | ok p =>
      obtain ⟨acc, k⟩ := p
      rw [ha] at h
      simp only at h
      refine ⟨acc, k, rfl, ?_⟩
      split at h
      · rename_i h2
        simp only [Except.ok.injEq, Prod.mk.injEq] at h
        exact Or.inl ⟨h2, h.1.symm, h.2.symm⟩
      · split at h
        · rename_i h2 h3
          simp only [Except.ok.injEq, Prod.mk.injEq] at h
          exact Or.inr ⟨by simpa using h2, h3, h.1.symm, h.2.symm⟩
        · cases h
theorem there2 {s : ByteArray} {i : Nat} {a c : UInt8} (h : thereB s i [a, c] = true) : i + 2 ≤ s.size := by
  have := there_len h
  have h2 := there_lt h
  simp only [List.length_cons, List.length_nil] at this
  omega
theorem not_of {c d : UInt8} (h : ¬ (d == c) = true) : notB d c = true := by
  simp only [notB, bne_iff_ne, ne_eq]
  intro q
  exact h (by simp [q])
theorem one_go {s : ByteArray} {i : Nat} {t : Tok} {n : Nat} (hi : i < s.size) (h : oneN s i = .ok (t, n)) : i < n ∧ n ≤ s.size := by
  unfold oneN at h
  split at h
  · rename_i h0
    have h2 := there2 h0
    obtain ⟨_, h3, _, rfl⟩ := end_ok h
    have a1 := run_ge wordB s (i + 2)
    have a2 := run_ge blankB s (runP wordB s (i + 2))
    have a3 := there_lt h3
    omega
  · split at h
    · obtain ⟨_, acc, k, h3, h4⟩ := beg_ok h
      have a1 := run_ge wordB s (i + 1)
      have a2 := run_le (p := wordB) (s := s) (i := i + 1) (by omega)
      have a3 := attrs_ok s _ _ _ _ _ h3 a2 trivial (by simp) (by simp)
      rcases h4 with ⟨h5, _, rfl⟩ | ⟨_, h5, _, rfl⟩
      · have := there_lt h5; omega
      · have := there2 h5; omega
    · rename_i h0
      obtain ⟨_, _, _, rfl⟩ := text_ok h
      have hp : notB 60 s[i] = true := by
        rw [there1 s i 60 hi] at h0
        exact not_of h0
      rw [run_yes hi hp]
      have a1 := run_ge (notB 60) s (i + 1)
      have a2 := run_le (p := notB 60) (s := s) (i := i + 1) (by omega)
      omega
/-- A token whose parts may be. -/
def okT (t : Tok) : Prop := (t.kind = 1 ∨ t.kind = 2 ∨ t.kind = 3 ∨ t.kind = 4) ∧ (t.kind < 4 → nameP t.name = true) ∧ (t.kind = 4 → t.name = noB) ∧ ¬ countZ t.text.data.toList < 0 ∧ t.text.size ≤ 1500 ∧ t.attrs.length ≤ 20 ∧ (∀ a ∈ t.attrs, okA a) ∧ Rise t.attrs
theorem one_may {s : ByteArray} {i : Nat} {t : Tok} {n : Nat} (hi : i < s.size) (h : oneN s i = .ok (t, n)) : okT t ∧ t.pos = i ∧ (t.kind = 4 → t.text.size ≠ 0) := by
  have c0 : ¬ countZ noB.data.toList < 0 := by decide
  unfold oneN at h
  split at h
  · obtain ⟨h1, _, rfl, _⟩ := end_ok h
    exact ⟨⟨by simp, fun _ => h1, by simp, c0, by show noB.size ≤ 1500; decide, by simp, by simp, trivial⟩, rfl, by simp⟩
  · split at h
    · obtain ⟨h1, acc, k, h3, h4⟩ := beg_ok h
      have a2 := run_le (p := wordB) (s := s) (i := i + 1) (by omega)
      obtain ⟨r1, r2, r3, _⟩ := attrs_ok s _ _ _ _ _ h3 a2 trivial (by simp) (by simp)
      obtain ⟨q1, q2⟩ := sort_rise acc r1
      have q3 : (sortA acc).length ≤ 20 := by rw [q2.length_eq]; exact r3
      have q4 : ∀ a ∈ sortA acc, okA a := fun a ha => r2 a (q2.subset ha)
      rcases h4 with ⟨_, rfl, _⟩ | ⟨_, _, rfl, _⟩
      · exact ⟨⟨by simp, fun _ => h1, by simp, c0, by show noB.size ≤ 1500; decide, q3, q4, q1⟩, rfl, by simp⟩
      · exact ⟨⟨by simp, fun _ => h1, by simp, c0, by show noB.size ≤ 1500; decide, q3, q4, q1⟩, rfl, by simp⟩
    · rename_i h0
      obtain ⟨h1, h2, rfl, _⟩ := text_ok h
      obtain ⟨ys, h3, h4⟩ := undo_chars _ _ h1
      refine ⟨⟨by simp, by simp, by simp, count_of h3, h2, by simp, by simp, trivial⟩, rfl, fun _ => ?_⟩
      have hp : notB 60 s[i] = true := by
        rw [there1 s i 60 hi] at h0
        exact not_of h0
      have hsz : (s.extract i (runP (notB 60) s i)).size ≠ 0 := by
        have a1 := run_ge (notB 60) s (i + 1)
        have a2 := run_le (p := notB 60) (s := s) (i := i + 1) (by omega)
        rw [run_yes hi hp]
        simp
        omega
      have := h4 hsz
      intro q
      apply this
      have e : (undoB false (s.extract i (runP (notB 60) s i))).1.data.toList = [] := by
        apply List.length_eq_zero_iff.1
        simpa using q
      rw [e, chars_nil] at h3
      simpa using h3.symm
/-- A text ends at a tag, or at the end. -/
theorem text_stop {s : ByteArray} {i : Nat} {t : Tok} {n : Nat} (h : oneN s i = .ok (t, n)) (hk : t.kind = 4) (hn : n < s.size) : thereB s n [60] = true := by
  unfold oneN at h
  split at h
  · obtain ⟨_, _, rfl, _⟩ := end_ok h
    simp at hk
  · split at h
    · obtain ⟨_, acc, k, _, h4⟩ := beg_ok h
      rcases h4 with ⟨_, rfl, _⟩ | ⟨_, _, rfl, _⟩ <;> simp at hk
    · obtain ⟨_, _, _, rfl⟩ := text_ok h
      have := run_stop hn
      rw [there1 s _ 60 hn]
      have e : s[runP (notB 60) s i] = 60 := by simpa [notB] using this
      rw [e]
      rfl
theorem tag_kind {s : ByteArray} {i : Nat} {t : Tok} {n : Nat} (h : oneN s i = .ok (t, n)) (ht : thereB s i [60] = true) : t.kind ≠ 4 := by
  unfold oneN at h
  split at h
  · obtain ⟨_, _, rfl, _⟩ := end_ok h
    simp
  · try rw [if_pos ht] at h
    obtain ⟨_, acc, k, _, h4⟩ := beg_ok h
    rcases h4 with ⟨_, rfl, _⟩ | ⟨_, _, rfl, _⟩ <;> simp
theorem all_succ (f : Nat) (s : ByteArray) (i : Nat) (acc : List Tok) : allF (f + 1) s i acc = if s.size ≤ i then .ok acc else match oneN s i with
    | .error e => .error e
    | .ok (t, n) => allF f s n (acc ++ [t]) := rfl
theorem all_end {f : Nat} {s : ByteArray} {i : Nat} {acc : List Tok} (h : s.size ≤ i) : allF f s i acc = .ok acc := by
  cases f with
  | zero => rfl
  | succ f => rw [all_succ, if_pos h]
theorem all_bad {f : Nat} {s : ByteArray} {i : Nat} {acc : List Tok} {e : Bad} (hf : 0 < f) (h : i < s.size) (ho : oneN s i = .error e) : allF f s i acc = .error e := by
  obtain ⟨f, rfl⟩ : ∃ g, f = g + 1 := ⟨f - 1, by omega⟩
  rw [all_succ, if_neg (by omega), ho]
theorem all_next {f : Nat} {s : ByteArray} {i : Nat} {acc : List Tok} {t : Tok} {n : Nat} (hf : 0 < f) (h : i < s.size) (ho : oneN s i = .ok (t, n)) : allF f s i acc = allF (f - 1) s n (acc ++ [t]) := by
  obtain ⟨f, rfl⟩ : ∃ g, f = g + 1 := ⟨f - 1, by omega⟩
  rw [all_succ, if_neg (by omega), ho]
  rfl
/-- Tokens that stand side by side, from a place to the end. -/
def Side (s : ByteArray) : Nat → List Tok → Prop
  | i, [] => s.size ≤ i
  | i, t :: l => i < s.size ∧ ∃ n, oneN s i = .ok (t, n) ∧ Side s n l
theorem all_side (s : ByteArray) : ∀ (f i : Nat) (acc ts : List Tok), s.size - i < f → allF f s i acc = .ok ts → ∃ l, ts = acc ++ l ∧ Side s i l
  | 0, _, _, _, h, _ => by omega
  | f + 1, i, acc, ts, hf, h => by
    rw [all_succ] at h
    split at h
    · rename_i hi
      simp only [Except.ok.injEq] at h
      exact ⟨[], by simp [h], hi⟩
    · rename_i hi
      cases ho : oneN s i with
      | error e => rw [ho] at h; cases h
      | ok p =>
        obtain ⟨t, n⟩ := p
        rw [ho] at h
        have hg := one_go (by omega) ho
        obtain ⟨l, h1, h2⟩ := all_side s f n (acc ++ [t]) ts (by omega) h
        exact ⟨t :: l, by rw [h1]; simp, by omega, n, ho, h2⟩
theorem allP_side {s : ByteArray} {ts : List Tok} (h : allP s = .ok ts) : Side s 0 ts := by
  obtain ⟨l, h1, h2⟩ := all_side s _ _ _ _ (by omega) h
  simp only [List.nil_append] at h1
  subst h1
  exact h2
theorem side_may {s : ByteArray} : ∀ {ts : List Tok} {i : Nat}, Side s i ts → ∀ t ∈ ts, okT t
  | [], _, _, t, ht => by simp at ht
  | a :: l, i, ⟨h1, n, h2, h3⟩, t, ht => by
    rcases List.mem_cons.1 ht with rfl | ht
    · exact (one_may h1 h2).1
    · exact side_may h3 t ht
end L
end Go.Proofs.YtidccohjehegjaaDoor
