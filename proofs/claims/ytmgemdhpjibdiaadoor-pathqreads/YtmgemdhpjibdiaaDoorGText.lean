/- Plain mathematics for layer glyph: what is put is what is next, and the other way round; a text's characters. No program is spoken of here. -/
import Derived.Test.YtmgemdhpjibdiaaDoorGNextPlain
namespace Go.Proofs.YtmgemdhpjibdiaaDoor
namespace G
/-- The bytes of a character, as numbers. -/
def putN (c : Int) : List Int :=
  if c < 128 then [c] else if c < 2048 then [192 + c / 64, 128 + c % 64]
  else if c < 65536 then [224 + c / 4096, 128 + c / 64 % 64, 128 + c % 64]
  else [240 + c / 262144, 128 + c / 4096 % 64, 128 + c / 64 % 64, 128 + c % 64]
theorem char_range (c : Int) (h : charB c = true) : 9 ≤ c ∧ c ≤ 1114111 := by
  simp [charB] at h; omega
def putL (c : Int) : List UInt8 := (putN c).map fun n => UInt8.ofNat n.toNat
def nums (l : List UInt8) : List Int := l.map fun b => (b.toNat : Int)
theorem of_nums (l : List UInt8) : (nums l).map (fun n => UInt8.ofNat n.toNat) = l := by
  induction l with
  | nil => rfl
  | cons b l ih => simp [nums] at ih ⊢; exact ih
theorem toNat_byte (n : Int) (h0 : 0 ≤ n) (h1 : n < 256) : ((UInt8.ofNat n.toNat).toNat : Int) = n := by
  simp [UInt8.toNat_ofNat']; omega
theorem next_le (l : List UInt8) : (nextL l).2 ≤ l.length := by
  unfold nextL
  split
  · simp
  · split
    · simp
    · rename_i h
      split
      · simp
      · split
        · simp
        · simp; omega
theorem next_zero (l : List UInt8) (hl : l ≠ []) (h : (nextL l).2 = 0) : (nextL l).1 = -1 := by
  unfold nextL at *
  rw [if_neg hl] at *
  split
  · rfl
  · rename_i a
    rw [if_neg a] at h
    split
    · rfl
    · rename_i b
      rw [if_neg b] at h
      split
      · rfl
      · rename_i d
        rw [if_neg d] at h
        simp at h
        omega
theorem put1 (a0 : Int) (h0 : a0 < 128) : putN a0 = [a0] := by simp [putN, h0]
theorem put2 (a0 a1 : Int) (h0 : 192 ≤ a0 ∧ a0 < 224) (h1 : 128 ≤ a1 ∧ a1 < 192) (hv : 128 ≤ a0 % 32 * 64 + a1 % 64) : putN (a0 % 32 * 64 + a1 % 64) = [a0, a1] := by
  obtain ⟨z, hz⟩ : ∃ z, z = a0 % 32 * 64 + a1 % 64 := ⟨_, rfl⟩
  rw [← hz] at hv ⊢
  unfold putN
  rw [if_neg (by omega), if_pos (by omega)]
  rw [show 192 + z / 64 = a0 by omega, show 128 + z % 64 = a1 by omega]
theorem put3 (a0 a1 a2 : Int) (h0 : 224 ≤ a0 ∧ a0 < 240) (h1 : 128 ≤ a1 ∧ a1 < 192) (h2 : 128 ≤ a2 ∧ a2 < 192) (hv : 2048 ≤ (a0 % 16 * 64 + a1 % 64) * 64 + a2 % 64) : putN ((a0 % 16 * 64 + a1 % 64) * 64 + a2 % 64) = [a0, a1, a2] := by
  obtain ⟨z, hz⟩ : ∃ z, z = (a0 % 16 * 64 + a1 % 64) * 64 + a2 % 64 := ⟨_, rfl⟩
  rw [← hz] at hv ⊢
  unfold putN
  rw [if_neg (by omega), if_neg (by omega), if_pos (by omega)]
  rw [show 224 + z / 4096 = a0 by omega, show 128 + z / 64 % 64 = a1 by omega, show 128 + z % 64 = a2 by omega]
theorem put4 (a0 a1 a2 a3 : Int) (h0 : 240 ≤ a0 ∧ a0 < 248) (h1 : 128 ≤ a1 ∧ a1 < 192) (h2 : 128 ≤ a2 ∧ a2 < 192) (h3 : 128 ≤ a3 ∧ a3 < 192) (hv : 65536 ≤ ((a0 % 8 * 64 + a1 % 64) * 64 + a2 % 64) * 64 + a3 % 64) : putN (((a0 % 8 * 64 + a1 % 64) * 64 + a2 % 64) * 64 + a3 % 64) = [a0, a1, a2, a3] := by
  obtain ⟨z, hz⟩ : ∃ z, z = ((a0 % 8 * 64 + a1 % 64) * 64 + a2 % 64) * 64 + a3 % 64 := ⟨_, rfl⟩
  rw [← hz] at hv ⊢
  unfold putN
  rw [if_neg (by omega), if_neg (by omega), if_neg (by omega)]
  rw [show 240 + z / 262144 = a0 by omega, show 128 + z / 4096 % 64 = a1 by omega, show 128 + z / 64 % 64 = a2 by omega, show 128 + z % 64 = a3 by omega]
theorem nums_take (l : List UInt8) : ∀ n, n ≤ l.length → nums (l.take n) = (List.range n).map (at' l)
  | 0, _ => rfl
  | n + 1, h => by
    have ih := nums_take l n (by omega)
    rw [List.take_succ_eq_append_getElem (by omega), List.range_succ, List.map_append, ← ih]
    unfold nums
    rw [List.map_append]
    simp [at', List.getElem?_eq_getElem (show n < l.length by omega)]
theorem val2 (h : Int) (l : List UInt8) : valTo h l 2 = h * 64 + at' l 1 % 64 := by simp [valTo]
theorem val3 (h : Int) (l : List UInt8) : valTo h l 3 = (h * 64 + at' l 1 % 64) * 64 + at' l 2 % 64 := by simp [valTo]
theorem val4 (h : Int) (l : List UInt8) : valTo h l 4 = ((h * 64 + at' l 1 % 64) * 64 + at' l 2 % 64) * 64 + at' l 3 % 64 := by simp [valTo]
theorem cont2 (l : List UInt8) : contTo l 2 = contB l 1 := by simp [contTo]
theorem cont3 (l : List UInt8) : contTo l 3 = (contB l 1 && contB l 2) := by simp [contTo]
theorem cont4 (l : List UInt8) : contTo l 4 = (contB l 1 && contB l 2 && contB l 3) := by simp [contTo]
theorem cont_of {l : List UInt8} {k : Nat} (h : contB l k = true) : 128 ≤ at' l k ∧ at' l k < 192 := by simpa [contB] using h
/-- The four ways of a first byte. -/
theorem lead_cases (b : Int) : (b < 128 ∧ leadN b = (1, b, 0)) ∨ ((192 ≤ b ∧ b < 224) ∧ leadN b = (2, b % 32, 128)) ∨ ((224 ≤ b ∧ b < 240) ∧ leadN b = (3, b % 16, 2048)) ∨ ((240 ≤ b ∧ b < 248) ∧ leadN b = (4, b % 8, 65536)) ∨ ((128 ≤ b ∧ b < 192 ∨ 248 ≤ b) ∧ leadN b = (0, 0, 0)) := by
  by_cases w1 : b < 128
  · exact .inl ⟨w1, leadW1 _ w1⟩
  by_cases w2 : 192 ≤ b ∧ b < 224
  · exact .inr (.inl ⟨w2, leadW2 _ (by simpa using w2)⟩)
  by_cases w3 : 224 ≤ b ∧ b < 240
  · exact .inr (.inr (.inl ⟨w3, leadW3 _ (by simpa using w3)⟩))
  by_cases w4 : 240 ≤ b ∧ b < 248
  · exact .inr (.inr (.inr (.inl ⟨w4, leadW4 _ (by simpa using w4)⟩)))
  · exact .inr (.inr (.inr (.inr ⟨by omega, leadW0 _ (by omega) (by simpa using w2) (by simpa using w3) (by simpa using w4)⟩)))
/-- What nextL is, by its parts. -/
theorem next_parts (l : List UInt8) (c : Int) (n : Nat) (h : nextL l = (c, n)) (hn : n ≠ 0) : ∃ hi t, leadN (at' l 0) = (n, hi, t) ∧ n ≤ l.length ∧ contTo l n = true ∧ c = valTo hi l n ∧ t ≤ c ∧ charB c = true := by
  obtain ⟨⟨m, hi, t⟩, e⟩ : ∃ p, leadN (at' l 0) = p := ⟨_, rfl⟩
  unfold nextL at h
  rw [e] at h
  simp only at h
  split at h
  · simp at h; omega
  · split at h
    · simp at h; omega
    · rename_i hm
      split at h
      · simp at h; omega
      · rename_i hc
        split at h
        · simp at h; omega
        · rename_i hv
          simp only [Prod.mk.injEq] at h
          obtain ⟨rfl, rfl⟩ := h
          exact ⟨hi, t, e, by omega, by simpa using hc, rfl, by omega, by simpa using fun q => hv (.inr q)⟩
/-- Whatever is next is a character, of whose bytes the text's first ones are. -/
theorem next_nums (l : List UInt8) (c : Int) (n : Nat) (h : nextL l = (c, n)) (hn : n ≠ 0) : charB c = true ∧ putN c = nums (l.take n) := by
  obtain ⟨hi, t, e, hle, hc, rfl, ht, hb⟩ := next_parts l c n h hn
  refine ⟨hb, ?_⟩
  rw [nums_take l n hle]
  rcases lead_cases (at' l 0) with ⟨w, q⟩ | ⟨w, q⟩ | ⟨w, q⟩ | ⟨w, q⟩ | ⟨w, q⟩
  · obtain ⟨rfl, rfl, rfl⟩ := lead_eq e q
    exact put1 _ w
  · obtain ⟨rfl, rfl, rfl⟩ := lead_eq e q
    rw [cont2] at hc
    rw [val2] at ht ⊢
    exact put2 _ _ w (cont_of hc) ht
  · obtain ⟨rfl, rfl, rfl⟩ := lead_eq e q
    rw [cont3, Bool.and_eq_true] at hc
    rw [val3] at ht ⊢
    exact put3 _ _ _ w (cont_of hc.1) (cont_of hc.2) ht
  · obtain ⟨rfl, rfl, rfl⟩ := lead_eq e q
    rw [cont4, Bool.and_eq_true, Bool.and_eq_true] at hc
    rw [val4] at ht ⊢
    exact put4 _ _ _ _ w (cont_of hc.1.1) (cont_of hc.1.2) (cont_of hc.2) ht
  · obtain ⟨rfl, rfl, rfl⟩ := lead_eq e q
    exact absurd rfl hn
theorem next_putL (l : List UInt8) (c : Int) (n : Nat) (h : nextL l = (c, n)) (hn : n ≠ 0) : charB c = true ∧ putL c = l.take n := by
  obtain ⟨a, b⟩ := next_nums l c n h hn
  refine ⟨a, ?_⟩
  unfold putL
  rw [b, of_nums]
theorem putN_len (c : Int) : 1 ≤ (putN c).length ∧ (putN c).length ≤ 4 := by
  unfold putN; split
  · simp
  · split
    · simp
    · split <;> simp
theorem putN_range (c : Int) (h0 : 0 ≤ c) (h1 : c ≤ 1114111) : ∀ x ∈ putN c, 0 ≤ x ∧ x < 256 := by
  intro x hx
  unfold putN at hx
  split at hx
  · simp at hx; omega
  · split at hx
    · simp at hx; omega
    · split at hx <;> (simp at hx; omega)
theorem nums_putL (c : Int) (h0 : 0 ≤ c) (h1 : c ≤ 1114111) : nums (putL c) = putN c := by
  unfold nums putL
  rw [List.map_map]
  conv => rhs; rw [← List.map_id (putN c)]
  refine List.map_congr_left fun x hx => ?_
  have := putN_range c h0 h1 x hx
  exact toNat_byte x this.1 this.2
end G
end Go.Proofs.YtmgemdhpjibdiaaDoor
