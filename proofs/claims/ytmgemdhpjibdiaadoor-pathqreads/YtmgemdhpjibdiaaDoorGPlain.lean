/- Plain mathematics for layer glyph: which numbers are characters, name beginnings and name parts. No program is spoken of here. -/
namespace Go.Proofs.YtmgemdhpjibdiaaDoor
namespace G

/-- The rows of the table of ranges: use, low, high. -/
def rows : List (Int × Int × Int) := [(0, 32, 55295), (0, 9, 10), (0, 13, 13), (0, 57344, 65533), (0, 65536, 1114111), (1, 97, 122), (1, 65, 90), (1, 95, 95), (1, 192, 214), (1, 216, 246), (1, 248, 767), (1, 880, 893), (1, 895, 8191), (1, 8204, 8205), (1, 8304, 8591), (1, 11264, 12271), (1, 12289, 55295), (1, 63744, 64975), (1, 65008, 65533), (1, 65536, 983039), (2, 45, 46), (2, 48, 57), (2, 183, 183), (2, 768, 879), (2, 8255, 8256)]
def useAt (k : Nat) : Int := (rows.getD k (0, 0, 0)).1
def lowAt (k : Nat) : Int := (rows.getD k (0, 0, 0)).2.1
def highAt (k : Nat) : Int := (rows.getD k (0, 0, 0)).2.2
def hitB (c u : Int) (k : Nat) : Bool := decide (useAt k = u) && decide (lowAt k ≤ c) && decide (c ≤ highAt k)
/-- One of the first k rows holds c for the use u. -/
def anyTo (c u : Int) : Nat → Bool
  | 0 => false
  | k + 1 => anyTo c u k || hitB c u k
def withinB (c u : Int) : Bool := anyTo c u 25

theorem any_mono (c u : Int) (k : Nat) (h : hitB c u k = true) : ∀ n, k < n → anyTo c u n = true
  | 0, hn => by omega
  | n + 1, hn => by
    by_cases e : k = n
    · subst e; simp [anyTo, h]
    · simp [anyTo, any_mono c u k h n (by omega)]
theorem within_hit (c u : Int) (k : Nat) (hk : k < 25) (h1 : useAt k = u) (h2 : lowAt k ≤ c) (h3 : c ≤ highAt k) : withinB c u = true :=
  any_mono c u k (by simp [hitB, h1, h2, h3]) 25 hk
theorem any_miss (c u : Int) (k : Nat) (h : anyTo c u k = false) (m : ¬ (useAt k = u ∧ lowAt k ≤ c ∧ c ≤ highAt k)) : anyTo c u (k + 1) = false := by
  simp only [anyTo, h, Bool.false_or, hitB, Bool.and_eq_false_iff, decide_eq_false_iff_not]
  by_cases a : useAt k = u
  · by_cases b : lowAt k ≤ c
    · exact .inr fun d => m ⟨a, b, d⟩
    · exact .inl (.inr b)
  · exact .inl (.inl a)

def charB (c : Int) : Bool := decide (c = 9 ∨ c = 10 ∨ c = 13 ∨ (32 ≤ c ∧ c ≤ 55295) ∨ (57344 ≤ c ∧ c ≤ 65533) ∨ (65536 ≤ c ∧ c ≤ 1114111))
def startB (c : Int) : Bool := decide (((65 ≤ c ∧ c ≤ 90) ∨ c = 95 ∨ (97 ≤ c ∧ c ≤ 122) ∨ (192 ≤ c ∧ c ≤ 214) ∨ (216 ≤ c ∧ c ≤ 246)) ∨ ((248 ≤ c ∧ c ≤ 767) ∨ (880 ≤ c ∧ c ≤ 893) ∨ (895 ≤ c ∧ c ≤ 8191) ∨ c = 8204 ∨ c = 8205) ∨ ((8304 ≤ c ∧ c ≤ 8591) ∨ (11264 ≤ c ∧ c ≤ 12271) ∨ (12289 ≤ c ∧ c ≤ 55295)) ∨ ((63744 ≤ c ∧ c ≤ 64975) ∨ (65008 ≤ c ∧ c ≤ 65533) ∨ (65536 ≤ c ∧ c ≤ 983039)))
def partB (c : Int) : Bool := startB c || decide (c = 45 ∨ c = 46 ∨ (48 ≤ c ∧ c ≤ 57) ∨ c = 183 ∨ (768 ≤ c ∧ c ≤ 879) ∨ c = 8255 ∨ c = 8256)

theorem within0 (c : Int) : withinB c 0 = charB c := by
  rw [Bool.eq_iff_iff]
  simp [withinB, anyTo, hitB, useAt, lowAt, highAt, rows, charB]
  omega
theorem within1 (c : Int) : withinB c 1 = startB c := by
  rw [Bool.eq_iff_iff]
  simp [withinB, anyTo, hitB, useAt, lowAt, highAt, rows, startB]
  omega
theorem within2 (c : Int) : (withinB c 1 || withinB c 2) = partB c := by
  rw [within1, Bool.eq_iff_iff]
  unfold partB
  generalize startB c = s
  cases s <;> simp [withinB, anyTo, hitB, useAt, lowAt, highAt, rows]
  omega
theorem start_part (c : Int) (h : startB c = true) : partB c = true := by simp [partB, h]
theorem part_char (c : Int) (h : partB c = true) : charB c = true := by
  simp [partB, startB] at h
  simp [charB]
  omega
end G
end Go.Proofs.YtmgemdhpjibdiaaDoor
