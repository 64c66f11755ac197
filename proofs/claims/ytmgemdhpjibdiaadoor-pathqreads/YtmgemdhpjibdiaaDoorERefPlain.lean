/- Plain mathematics for layer escape: the reference by its second byte; what stepU, undoF come to. No program is spoken of here. -/
import Derived.Test.YtmgemdhpjibdiaaDoorEPlain
namespace Go.Proofs.YtmgemdhpjibdiaaDoor
namespace E
open G
theorem pre_no {p l : List UInt8} (k : Nat) (hk : k < p.length) (h : peekV l k ≠ (p[k].toNat : Int)) : preB p l = false := by
  rw [Bool.eq_false_iff]
  exact fun q => h (pre_at q k hk)
theorem ref_at35 (l : List UInt8) (h : peekV l 1 = 35) : refL l = if peekV l 2 = 120 then numL 16 3 l else numL 10 2 l := by
  have a1 : preB amp l = false := pre_no 1 (by decide) (by rw [h]; decide)
  have a2 : preB lt l = false := pre_no 1 (by decide) (by rw [h]; decide)
  have a3 : preB gt l = false := pre_no 1 (by decide) (by rw [h]; decide)
  have a4 : preB quot l = false := pre_no 1 (by decide) (by rw [h]; decide)
  have a5 : preB apos l = false := pre_no 1 (by decide) (by rw [h]; decide)
  simp [refL, a1, a2, a3, a4, a5, h]
theorem ref_atl (l : List UInt8) (h : peekV l 1 = 108) (b : Bool) (hb : preB lt l = b) : refL l = (bif b then 60 else 0, bif b then 4 else 0) := by
  have a1 : preB amp l = false := pre_no 1 (by decide) (by rw [h]; decide)
  have a3 : preB gt l = false := pre_no 1 (by decide) (by rw [h]; decide)
  have a4 : preB quot l = false := pre_no 1 (by decide) (by rw [h]; decide)
  have a5 : preB apos l = false := pre_no 1 (by decide) (by rw [h]; decide)
  cases b <;> simp [refL, a1, hb, a3, a4, a5, h]
theorem ref_atg (l : List UInt8) (h : peekV l 1 = 103) (b : Bool) (hb : preB gt l = b) : refL l = (bif b then 62 else 0, bif b then 4 else 0) := by
  have a1 : preB amp l = false := pre_no 1 (by decide) (by rw [h]; decide)
  have a3 : preB lt l = false := pre_no 1 (by decide) (by rw [h]; decide)
  have a4 : preB quot l = false := pre_no 1 (by decide) (by rw [h]; decide)
  have a5 : preB apos l = false := pre_no 1 (by decide) (by rw [h]; decide)
  cases b <;> simp [refL, a1, hb, a3, a4, a5, h]
theorem ref_atq (l : List UInt8) (h : peekV l 1 = 113) (b : Bool) (hb : preB quot l = b) : refL l = (bif b then 34 else 0, bif b then 6 else 0) := by
  have a1 : preB amp l = false := pre_no 1 (by decide) (by rw [h]; decide)
  have a3 : preB lt l = false := pre_no 1 (by decide) (by rw [h]; decide)
  have a4 : preB gt l = false := pre_no 1 (by decide) (by rw [h]; decide)
  have a5 : preB apos l = false := pre_no 1 (by decide) (by rw [h]; decide)
  cases b <;> simp [refL, a1, hb, a3, a4, a5, h]
theorem ref_atam (l : List UInt8) (h : peekV l 1 = 97) (h2 : peekV l 2 = 109) (b : Bool) (hb : preB amp l = b) : refL l = (bif b then 38 else 0, bif b then 5 else 0) := by
  have a1 : preB quot l = false := pre_no 1 (by decide) (by rw [h]; decide)
  have a3 : preB lt l = false := pre_no 1 (by decide) (by rw [h]; decide)
  have a4 : preB gt l = false := pre_no 1 (by decide) (by rw [h]; decide)
  have a5 : preB apos l = false := pre_no 2 (by decide) (by rw [h2]; decide)
  cases b <;> simp [refL, a1, hb, a3, a4, a5, h]
theorem ref_atap (l : List UInt8) (h : peekV l 1 = 97) (h2 : peekV l 2 = 112) (b : Bool) (hb : preB apos l = b) : refL l = (bif b then 39 else 0, bif b then 6 else 0) := by
  have a1 : preB quot l = false := pre_no 1 (by decide) (by rw [h]; decide)
  have a3 : preB lt l = false := pre_no 1 (by decide) (by rw [h]; decide)
  have a4 : preB gt l = false := pre_no 1 (by decide) (by rw [h]; decide)
  have a5 : preB amp l = false := pre_no 2 (by decide) (by rw [h2]; decide)
  cases b <;> simp [refL, a1, hb, a3, a4, a5, h]
theorem ref_ata (l : List UInt8) (h : peekV l 1 = 97) (h2 : peekV l 2 ≠ 109) (h3 : peekV l 2 ≠ 112) : refL l = (0, 0) := by
  have a1 : preB quot l = false := pre_no 1 (by decide) (by rw [h]; decide)
  have a3 : preB lt l = false := pre_no 1 (by decide) (by rw [h]; decide)
  have a4 : preB gt l = false := pre_no 1 (by decide) (by rw [h]; decide)
  have a5 : preB amp l = false := pre_no 2 (by decide) h2
  have a6 : preB apos l = false := pre_no 2 (by decide) h3
  simp [refL, a1, a3, a4, a5, a6, h]
theorem ref_atno (l : List UInt8) (x0 : peekV l 1 ≠ 35) (x1 : peekV l 1 ≠ 97) (x2 : peekV l 1 ≠ 108) (x3 : peekV l 1 ≠ 103) (x4 : peekV l 1 ≠ 113) : refL l = (0, 0) := by
  have a1 : preB amp l = false := pre_no 1 (by decide) x1
  have a2 : preB lt l = false := pre_no 1 (by decide) x2
  have a3 : preB gt l = false := pre_no 1 (by decide) x3
  have a4 : preB quot l = false := pre_no 1 (by decide) x4
  have a5 : preB apos l = false := pre_no 1 (by decide) x1
  simp [refL, a1, a2, a3, a4, a5, x0]
theorem instead_len (c : Int) (v : Bool) : (insteadL c v).length ≤ 6 := by
  unfold insteadL
  repeat' split
  all_goals decide
theorem esc_len (v : Bool) (c : Int) : (escC v c).length ≤ 6 := by
  unfold escC
  split
  · have := putL_len c; omega
  · exact instead_len c v
theorem esc_self {v : Bool} {c : Int} (h : insteadL c v = []) : escC v c = putL c := by simp [escC, h]
theorem esc_other {v : Bool} {c : Int} (h : insteadL c v ≠ []) : escC v c = insteadL c v := by simp [escC, h]
/-- A step by its three ways. -/
theorem step_ref {v : Bool} {l : List UInt8} {c : Int} {n : Nat} (hn : (nextL l).1 = 38) (h : refL l = (c, n)) : stepU v l = if n = 0 then ([], 0, 20) else if charB c = false then ([], 0, 21) else (putL c, n, 0) := by
  simp [stepU, hn, h]
theorem step_form {v : Bool} {l : List UInt8} (hn : (nextL l).1 = 60 ∨ (nextL l).1 = 62) : stepU v l = ([], 0, 20) := by
  unfold stepU
  rw [if_neg (by omega), if_pos hn]
theorem step_char {v : Bool} {l : List UInt8} (h1 : (nextL l).1 ≠ 38) (h2 : (nextL l).1 ≠ 60) (h3 : (nextL l).1 ≠ 62) (hn : (nextL l).2 = 0 ∨ insteadL (nextL l).1 v ≠ []) : stepU v l = ([], 0, 21) := by
  unfold stepU
  rw [if_neg h1, if_neg (by omega), if_pos hn]
theorem step_self {v : Bool} {l : List UInt8} (h1 : (nextL l).1 ≠ 38) (h2 : (nextL l).1 ≠ 60) (h3 : (nextL l).1 ≠ 62) (hn : (nextL l).2 ≠ 0) (hi : insteadL (nextL l).1 v = []) : stepU v l = (l.take (nextL l).2, (nextL l).2, 0) := by
  unfold stepU
  rw [if_neg h1, if_neg (by omega), if_neg (by rw [not_or]; exact ⟨hn, fun q => q hi⟩)]
end E
end Go.Proofs.YtmgemdhpjibdiaaDoor
