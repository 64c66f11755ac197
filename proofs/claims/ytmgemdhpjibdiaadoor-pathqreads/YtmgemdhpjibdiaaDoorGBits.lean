/- Bits of small int32 and uint8 numbers as sums and remainders. No program is spoken of here. -/
import Derived.WalkKit
namespace Go.Proofs.YtmgemdhpjibdiaaDoor
namespace G
theorem wrap_i32 (n : Int) (h0 : 0 ≤ n) (h1 : n < 2147483648) : IntKind.i32.wrap n = n := by
  simp [IntKind.wrap, IntKind.bits, IntKind.signed]; omega
theorem ofInt_i32 (a : Nat) (ha : a < 2147483648) : (BitVec.ofInt 32 (a : Int)).toNat = a := by
  rw [BitVec.ofInt_natCast, BitVec.toNat_ofNat]; exact Nat.mod_eq_of_lt (by omega)
theorem i32_or_nat (a b : Nat) (ha : a < 2147483648) (hb : b < 2147483648) : bits .or .i32 (a : Int) (b : Int) = ((a ||| b : Nat) : Int) := by
  have hx : a ||| b < 2 ^ 31 := Nat.or_lt_two_pow (by omega) (by omega)
  show IntKind.i32.wrap ((BitVec.ofInt 32 (a : Int) ||| BitVec.ofInt 32 (b : Int)).toNat : Int) = _
  rw [BitVec.toNat_or, ofInt_i32 a ha, ofInt_i32 b hb, wrap_i32 _ (by omega) (by omega)]
theorem i32_and_nat (a b : Nat) (ha : a < 2147483648) (hb : b < 2147483648) : bits .and .i32 (a : Int) (b : Int) = ((a &&& b : Nat) : Int) := by
  have hx : a &&& b < 2 ^ 31 := Nat.and_lt_two_pow _ (by omega)
  show IntKind.i32.wrap ((BitVec.ofInt 32 (a : Int) &&& BitVec.ofInt 32 (b : Int)).toNat : Int) = _
  rw [BitVec.toNat_and, ofInt_i32 a ha, ofInt_i32 b hb, wrap_i32 _ (by omega) (by omega)]
theorem i32_join (i : Nat) (x y : Int) (hx : 0 ≤ x) (hx2 : x < 2147483648) (hm : x.toNat % 2 ^ i = 0) (hy : 0 ≤ y) (hy2 : y.toNat < 2 ^ i) (hy3 : y < 2147483648) : bits .or .i32 x y = x + y := by
  obtain ⟨A, rfl⟩ := Int.eq_ofNat_of_zero_le hx
  obtain ⟨B, rfl⟩ := Int.eq_ofNat_of_zero_le hy
  rw [i32_or_nat A B (by omega) (by omega), nat_join i A B (by simpa using hm) (by simpa using hy2)]
  omega
theorem and63 (n : Int) (h0 : 0 ≤ n) (h1 : n < 2147483648) : bits .and .i32 n 63 = n % 64 := by
  obtain ⟨A, rfl⟩ := Int.eq_ofNat_of_zero_le h0
  have := i32_and_nat A 63 (by omega) (by omega)
  rw [nat_mask6] at this
  simpa using this
theorem or128 (n : Int) : bits .or .i32 128 (n % 64) = 128 + n % 64 :=
  i32_join 7 128 (n % 64) (by omega) (by omega) (by decide) (by omega) (by omega) (by omega)
theorem layByte (n : Int) (h0 : 0 ≤ n) (h1 : n < 2147483648) : bits .or .i32 128 (bits .and .i32 n 63) % 256 = 128 + n % 64 := by
  rw [and63 n h0 h1, or128]; omega
theorem or192 (n : Int) (h0 : 0 ≤ n) (h1 : n < 64) : bits .or .i32 192 n = 192 + n :=
  i32_join 6 192 n (by omega) (by omega) (by decide) (by omega) (by omega) (by omega)
theorem or224 (n : Int) (h0 : 0 ≤ n) (h1 : n < 32) : bits .or .i32 224 n = 224 + n :=
  i32_join 5 224 n (by omega) (by omega) (by decide) (by omega) (by omega) (by omega)
theorem or240 (n : Int) (h0 : 0 ≤ n) (h1 : n < 16) : bits .or .i32 240 n = 240 + n :=
  i32_join 4 240 n (by omega) (by omega) (by decide) (by omega) (by omega) (by omega)
theorem or_shift (n x : Int) (h0 : 0 ≤ n) (h1 : n < 33554432) (h2 : 0 ≤ x) (h3 : x < 64) : bits .or .i32 (n * 64) x = n * 64 + x :=
  i32_join 6 (n * 64) x (by omega) (by omega) (by omega) (by omega) (by omega) (by omega)
theorem and224 (b : Int) (h0 : 0 ≤ b) (h : b < 256) : (bits .and .u8 b 224 == 192) = decide (192 ≤ b ∧ b < 224) := by
  obtain ⟨n, rfl⟩ := Int.eq_ofNat_of_zero_le h0
  have : ∀ n : Nat, n < 256 → (bits .and .u8 (n : Int) 224 == 192) = decide ((192 : Int) ≤ n ∧ (n : Int) < 224) := by decide +kernel
  exact this n (by omega)
theorem and240 (b : Int) (h0 : 0 ≤ b) (h : b < 256) : (bits .and .u8 b 240 == 224) = decide (224 ≤ b ∧ b < 240) := by
  obtain ⟨n, rfl⟩ := Int.eq_ofNat_of_zero_le h0
  have : ∀ n : Nat, n < 256 → (bits .and .u8 (n : Int) 240 == 224) = decide ((224 : Int) ≤ n ∧ (n : Int) < 240) := by decide +kernel
  exact this n (by omega)
theorem and248 (b : Int) (h0 : 0 ≤ b) (h : b < 256) : (bits .and .u8 b 248 == 240) = decide (240 ≤ b ∧ b < 248) := by
  obtain ⟨n, rfl⟩ := Int.eq_ofNat_of_zero_le h0
  have : ∀ n : Nat, n < 256 → (bits .and .u8 (n : Int) 248 == 240) = decide ((240 : Int) ≤ n ∧ (n : Int) < 248) := by decide +kernel
  exact this n (by omega)
theorem and192 (b : Int) (h0 : 0 ≤ b) (h : b < 256) : (bits .and .u8 b 192 != 128) = !decide (128 ≤ b ∧ b < 192) := by
  obtain ⟨n, rfl⟩ := Int.eq_ofNat_of_zero_le h0
  have : ∀ n : Nat, n < 256 → (bits .and .u8 (n : Int) 192 != 128) = !decide ((128 : Int) ≤ n ∧ (n : Int) < 192) := by decide +kernel
  exact this n (by omega)
end G
end Go.Proofs.YtmgemdhpjibdiaaDoor
