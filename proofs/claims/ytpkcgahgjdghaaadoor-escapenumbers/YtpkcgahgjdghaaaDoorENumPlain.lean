/- Plain mathematics for layer escape: a number's digits, and what a reference by them is for. No program is spoken of here. -/
import Derived.Test.YtpkcgahgjdghaaaDoorERPlain
namespace Go.Proofs.YtpkcgahgjdghaaaDoor
namespace E
open G
def numOf (base : Int) (d : List UInt8) : Int := d.foldl (fun a b => a * base + hexV (b.toNat : Int)) 0
theorem fold_out (base : Int) : ∀ (d : List UInt8) (a : Int), d.foldl (fun a b => a * base + hexV (b.toNat : Int)) a = a * base ^ d.length + numOf base d
  | [], a => by simp [numOf]
  | x :: d, a => by
    have h1 := fold_out base d (a * base + hexV (x.toNat : Int))
    have h2 := fold_out base d (0 * base + hexV (x.toNat : Int))
    unfold numOf at *
    simp only [List.foldl_cons, List.length_cons]
    rw [h1, h2]
    simp only [Int.pow_succ, Int.zero_mul, Int.zero_add, Int.add_mul, Int.mul_assoc, Int.mul_comm base]
    omega
theorem numOf_cons (base : Int) (x : UInt8) (d : List UInt8) : numOf base (x :: d) = hexV (x.toNat : Int) * base ^ d.length + numOf base d := by
  have := fold_out base d (0 * base + hexV (x.toNat : Int))
  simpa [numOf] using this
theorem numOf_nonneg (base : Int) (hb : 0 ≤ base) : ∀ d : List UInt8, 0 ≤ numOf base d
  | [] => by simp [numOf]
  | x :: d => by
    rw [numOf_cons]
    have h1 := numOf_nonneg base hb d
    have h2 := (hex_range (x.toNat : Int)).1
    have h3 : 0 ≤ base ^ d.length := Int.pow_nonneg hb
    have h4 := Int.mul_nonneg h2 h3
    omega
theorem peek_mid (p d q : List UInt8) (j : Nat) (h : j < d.length) : peekV (p ++ (d ++ q)) (p.length + j) = (d[j].toNat : Int) := by
  rw [peek_lt (by simp; omega)]
  unfold at'
  rw [List.getD_eq_getElem?_getD, List.getElem?_append_right (by omega), show p.length + j - p.length = j by omega, List.getElem?_append_left h, List.getElem?_eq_getElem h]
  rfl
theorem peek_end (p d : List UInt8) (x : UInt8) (q : List UInt8) : peekV (p ++ (d ++ x :: q)) (p.length + d.length) = (x.toNat : Int) := by
  rw [peek_lt (by simp)]
  unfold at'
  rw [List.getD_eq_getElem?_getD, List.getElem?_append_right (by omega), show p.length + d.length - p.length = d.length by omega, List.getElem?_append_right (Nat.le_refl _)]
  simp
theorem mid_all (base : Int) (p d q : List UInt8) (hd : ∀ b ∈ d, hexV (b.toNat : Int) < base) : ∀ j, j ≤ d.length → allD base (p ++ (d ++ q)) p.length j = true ∧ valD base (p ++ (d ++ q)) p.length j = numOf base (d.take j)
  | 0, _ => by simp [allD, valD, numOf]
  | j + 1, h => by
    obtain ⟨a, b⟩ := mid_all base p d q hd j (by omega)
    have e := peek_mid p d q j (by omega)
    constructor
    · rw [allD, a, e]
      simpa using hd _ (List.getElem_mem (show j < d.length by omega))
    · rw [valD, b, e, List.take_succ_eq_append_getElem (show j < d.length by omega)]
      simp only [numOf, List.foldl_append, List.foldl_cons, List.foldl_nil]
theorem num_mid (base : Int) (hb : base ≤ 16) (p d : List UInt8) (h1 : 1 ≤ d.length) (h7 : d.length ≤ 7) (hd : ∀ b ∈ d, hexV (b.toNat : Int) < base) : numL base p.length (p ++ (d ++ [59])) = (numOf base d, (p ++ (d ++ [59])).length) := by
  obtain ⟨a, b⟩ := mid_all base p d [59] hd d.length (Nat.le_refl _)
  rw [num_yes hb h7 (numB_iff.2 ⟨h1, a, peek_end p d 59 []⟩), b, List.take_length]
  simp
  omega
theorem undo_whole (v : Bool) (l : List UInt8) (c : Int) (hn : (nextL l).1 = 38) (hr : refL l = (c, l.length)) (hl : l ≠ []) : undoL v l = if charB c = true then (putL c, l.length, 0) else ([], 0, 21) := by
  have st := step_ref (v := v) hn hr
  rw [if_neg (by simpa using hl)] at st
  unfold undoL
  by_cases h : charB c = true
  · rw [if_neg (by rw [h]; simp)] at st
    rw [if_pos h, undoF_ok hl (by omega) st, List.drop_length, undoF_nil]
    simp
  · have h2 : charB c = false := by simpa using h
    rw [if_pos h2] at st
    rw [if_neg h, undoF_bad hl (by omega) st (by decide)]
theorem undo_ten (v : Bool) (d : List UInt8) (h1 : 1 ≤ d.length) (h7 : d.length ≤ 7) (hd : ∀ b ∈ d, hexV (b.toNat : Int) < 10) : undoL v ([38, 35] ++ (d ++ [59])) = if charB (numOf 10 d) = true then (putL (numOf 10 d), ([38, 35] ++ (d ++ [59])).length, 0) else ([], 0, 21) := by
  have hn := num_mid 10 (by decide) [38, 35] d h1 h7 hd
  have e2 : peekV ([38, 35] ++ (d ++ [59])) 2 ≠ 120 := by
    have := peek_mid [38, 35] d [59] 0 (by omega)
    simp only [List.length_cons, List.length_nil, Nat.add_zero, Nat.zero_add] at this
    rw [this]
    have q := hd d[0] (List.getElem_mem (by omega))
    intro z
    rw [z] at q
    revert q
    decide
  refine undo_whole v _ _ (next38' ([35] ++ (d ++ [59])) rfl) ?_ (by simp)
  rw [ref_at35 _ (by simp [peekS, peek0]), if_neg e2]
  exact hn
theorem undo_hex (v : Bool) (d : List UInt8) (h1 : 1 ≤ d.length) (h7 : d.length ≤ 7) (hd : ∀ b ∈ d, hexV (b.toNat : Int) < 16) : undoL v ([38, 35, 120] ++ (d ++ [59])) = if charB (numOf 16 d) = true then (putL (numOf 16 d), ([38, 35, 120] ++ (d ++ [59])).length, 0) else ([], 0, 21) := by
  have hn := num_mid 16 (by decide) [38, 35, 120] d h1 h7 hd
  refine undo_whole v _ _ (next38' ([35, 120] ++ (d ++ [59])) rfl) ?_ (by simp)
  rw [ref_at35 _ (by simp [peekS, peek0]), if_pos (by simp [peekS, peek0])]
  exact hn
/-- One more digit ahead. -/
theorem digit_step (base n : Int) (b : UInt8) (d : List UInt8) (c : Int) (hx : hexV (b.toNat : Int) = n % base) (h : n * base ^ d.length + numOf base d = c) : n / base * base ^ (d.length + 1) + numOf base (b :: d) = c := by
  rw [numOf_cons, hx, ← h, Int.pow_succ]
  have := Int.mul_ediv_add_emod n base
  have e : n / base * (base ^ d.length * base) = (base * (n / base)) * base ^ d.length := by
    rw [Int.mul_comm (base ^ d.length) base, ← Int.mul_assoc, Int.mul_comm (n / base) base]
  rw [e]
  conv => rhs; rw [← this]
  rw [Int.add_mul]
  omega
theorem pow_big10 (k : Nat) (h : 7 ≤ k) : 10000000 ≤ (10 : Int) ^ k := by
  obtain ⟨j, rfl⟩ : ∃ j, k = 7 + j := ⟨k - 7, by omega⟩
  rw [Int.pow_add]
  have : (0 : Int) < 10 ^ j := Int.pow_pos (by omega)
  have e : (10 : Int) ^ 7 = 10000000 := by decide
  rw [e]
  omega
theorem pow_big16 (k : Nat) (h : 7 ≤ k) : 10000000 ≤ (16 : Int) ^ k := by
  obtain ⟨j, rfl⟩ : ∃ j, k = 7 + j := ⟨k - 7, by omega⟩
  rw [Int.pow_add]
  have : (0 : Int) < 16 ^ j := Int.pow_pos (by omega)
  have e : (16 : Int) ^ 7 = 268435456 := by decide
  rw [e]
  omega
theorem few (base : Int) (hb : 0 ≤ base) (big : ∀ k, 7 ≤ k → 10000000 ≤ base ^ k) (n c : Int) (d : List UInt8) (h : n * base ^ d.length + numOf base d = c) (hn : 0 < n) (hc : c ≤ 9999999) : d.length ≤ 6 := by
  by_cases q : d.length ≤ 6
  · exact q
  · have b := big d.length (by omega)
    have nn := numOf_nonneg base hb d
    have : 1 * base ^ d.length ≤ n * base ^ d.length := Int.mul_le_mul_of_nonneg_right (by omega) (by omega)
    omega
end E
end Go.Proofs.YtpkcgahgjdghaaaDoor
