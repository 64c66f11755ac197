/- Plain mathematics: two queries, one behind the other, are the steps of both. -/
import Derived.Test.YtncgkglebpobpaaDoorQJoin
namespace Go.Proofs.YtncgkglebpobpaaDoor
namespace Q
open L G E S
/-- A text goes on with a slash. -/
def SlashB (b : ByteArray) : Prop := ∃ r, b.data.toList = 47 :: r
theorem drop_app (a b : ByteArray) (i : Nat) (hi : i ≤ a.size) : (a ++ b).data.toList.drop i = a.data.toList.drop i ++ b.data.toList := by
  have h : a.data.toList.length = a.size := by simp
  rw [L.app_list, List.drop_append_of_le_length (by omega)]
theorem pre_slash : ∀ (t x r : List UInt8), (∀ c ∈ t, c ≠ 47) → t.isPrefixOf (x ++ 47 :: r) = t.isPrefixOf x
  | [], x, r, _ => by cases x <;> rfl
  | c :: t, [], r, h => by
    have hc := h c (List.mem_cons_self ..)
    simp only [List.nil_append, List.isPrefixOf, Bool.and_eq_false_imp, beq_iff_eq]
    intro e
    exact absurd e hc
  | c :: t, d :: x, r, h => by
    simp only [List.cons_append, List.isPrefixOf]
    rw [pre_slash t x r (fun z hz => h z (List.mem_cons_of_mem _ hz))]
theorem there_app {a b : ByteArray} (hb : SlashB b) {i : Nat} (hi : i ≤ a.size) (t : List UInt8) (ht : ∀ c ∈ t, c ≠ 47) : thereB (a ++ b) i t = thereB a i t := by
  obtain ⟨r, hr⟩ := hb
  unfold thereB
  rw [drop_app a b i hi, hr, pre_slash _ _ _ ht]
theorem take_slash (p : UInt8 → Bool) (h : p 47 = false) : ∀ (x r : List UInt8), (x ++ 47 :: r).takeWhile p = x.takeWhile p
  | [], r => by simp [h]
  | c :: x, r => by
    cases hc : p c with
    | true => simp [hc, take_slash p h x r]
    | false => simp [hc]
theorem run_slash {a b : ByteArray} (hb : SlashB b) {i : Nat} (hi : i ≤ a.size) (p : UInt8 → Bool) (h : p 47 = false) : runP p (a ++ b) i = runP p a i := by
  obtain ⟨r, hr⟩ := hb
  unfold runP
  rw [drop_app a b i hi, hr, take_slash p h]
theorem ext_app (a b : ByteArray) {i j : Nat} (hi : i ≤ a.size) (hj : j ≤ a.size) : (a ++ b).extract i j = a.extract i j := by
  apply L.bytes_one
  rw [Lib.extract_data, Lib.extract_data, drop_app a b i hi, List.take_append_of_le_length (by simp; omega)]
theorem next_slash {x r : List UInt8} (hx : x ≠ []) : (nextL (x ++ 47 :: r)).2 = 0 ∨ nextL (x ++ 47 :: r) = nextL x := by
  by_cases h0 : (nextL (x ++ 47 :: r)).2 = 0
  · exact Or.inl h0
  · right
    by_cases h1 : (nextL x).2 = 0
    · exfalso
      obtain ⟨hc, hp⟩ := next_putL (x ++ 47 :: r) (nextL (x ++ 47 :: r)).1 (nextL (x ++ 47 :: r)).2 (by simp) h0
      have hle := next_le (x ++ 47 :: r)
      generalize (nextL (x ++ 47 :: r)).1 = c at *
      generalize (nextL (x ++ 47 :: r)).2 = n at *
      have hxl : 0 < x.length := List.length_pos_iff.2 hx
      have hpl : (putL c).length = n := by rw [hp, List.length_take]; omega
      by_cases hn : n ≤ x.length
      · have e : x = putL c ++ x.drop n := by
          rw [hp, List.take_append_of_le_length hn, List.take_append_drop]
        have := put_next c hc (x.drop n)
        rw [← e] at this
        rw [this] at h1
        simp only at h1
        have hl2 : (putN c).length = (putL c).length := by simp [putL]
        omega
      · have h128 : ¬ c < 128 := by
          intro h
          have : (putL c).length = 1 := by simp [putL, put1 c h]
          omega
        have hmem : (47 : UInt8) ∈ putL c := by
          rw [hp, List.take_append, List.mem_append]
          right
          obtain ⟨m, hm⟩ : ∃ m, n - x.length = m + 1 := ⟨n - x.length - 1, by omega⟩
          rw [hm, List.take_succ_cons]
          exact List.mem_cons_self ..
        unfold putL at hmem
        obtain ⟨y, hy, hy2⟩ := List.mem_map.1 hmem
        have hr := char_range c hc
        have := putN_high c (by omega) hr.2 y hy
        have h3 := congrArg UInt8.toNat hy2
        simp at h3
        omega
    · exact (next_ahead x (47 :: r) (nextL x).1 (nextL x).2 (by simp) h1).1.trans (by simp)
theorem name_slash : ∀ (f : Nat) (x r : List UInt8), nameF f (x ++ 47 :: r) = nameF f x
  | 0, _, _ => rfl
  | f + 1, [], r => by
    rw [List.nil_append, name_stop (Or.inr ⟨47, r, rfl, by simp⟩), name_stop (Or.inl rfl)]
  | f + 1, c :: x, r => by
    have hx : (c :: x) ≠ [] := by simp
    have hle := next_le (c :: x)
    generalize c :: x = y at *
    conv => lhs; unfold nameF
    conv => rhs; unfold nameF
    rcases next_slash (r := r) hx with h | h
    · rw [if_pos (Or.inr (Or.inl h))]
      by_cases hc : y = [] ∨ (nextL y).2 = 0 ∨ partB (nextL y).1 = false
      · rw [if_pos hc]
      · exfalso
        have hn : (nextL y).2 ≠ 0 := fun q => hc (Or.inr (Or.inl q))
        have := (next_ahead y (47 :: r) (nextL y).1 (nextL y).2 (by simp) hn).1
        rw [this] at h
        exact hn h
    · rw [h]
      by_cases hc : y = [] ∨ (nextL y).2 = 0 ∨ partB (nextL y).1 = false
      · rw [if_pos hc, if_pos (by rcases hc with q | q; exact absurd q hx; exact Or.inr q)]
      · rw [if_neg hc, if_neg (by rintro (q | q); simp at q; exact hc (Or.inr q)), List.drop_append_of_le_length hle, name_slash f _ r]
theorem nameEnd_app {a b : ByteArray} (hb : SlashB b) {i : Nat} (hi : i ≤ a.size) : nameEnd (a ++ b) i = nameEnd a i := by
  obtain ⟨r, hr⟩ := hb
  unfold nameEnd
  rw [drop_app a b i hi, hr, name_slash, nameF_more ((a ++ b).size + 1) (a.size + 1)]
  · simp [ByteArray.size_append]; omega
  · simp; omega
end Q
end Go.Proofs.YtncgkglebpobpaaDoor
