/- Plain mathematics for layer escape: what was escaped is undone to what it was; what it has none of; how long it is. No program is spoken of here. -/
import Derived.Test.YtmgemdhpjibdiaaDoorERefPlain
namespace Go.Proofs.YtmgemdhpjibdiaaDoor
namespace E
open G
theorem chars_flat (n : Nat) : ∀ (l : List UInt8) (cs : List Int), l.length ≤ n → chars l = some cs → cs.flatMap putL = l ∧ ∀ c ∈ cs, charB c = true := by
  induction n with
  | zero =>
    intro l cs hn h
    have : l = [] := by simpa using hn
    subst this
    rw [chars_nil] at h
    cases h
    simp
  | succ n ih =>
    intro l cs hn h
    by_cases e : l = []
    · subst e; rw [chars_nil] at h; cases h; simp
    · by_cases z : (nextL l).2 = 0
      · rw [chars_none l e z] at h; cases h
      · rw [chars_cons l e z] at h
        obtain ⟨zs, hz, rfl⟩ := Option.map_eq_some_iff.1 h
        have hle := next_le l
        obtain ⟨q1, q2⟩ := ih (l.drop (nextL l).2) zs (by simp; omega) hz
        obtain ⟨p1, p2⟩ := next_putL l (nextL l).1 (nextL l).2 rfl z
        constructor
        · rw [List.flatMap_cons, p2, q1, List.take_append_drop]
        · intro c hc
          rcases List.mem_cons.1 hc with rfl | hc
          · exact p1
          · exact q2 c hc
theorem put38 : putL 38 = [38] := by decide
theorem next38 (t : List UInt8) : (nextL (38 :: t)).1 = 38 := by
  have := put_next 38 (by decide) t
  rw [put38] at this
  rw [show (38 :: t : List UInt8) = [38] ++ t from rfl, this]
theorem next38' {l : List UInt8} (t : List UInt8) (h : l = 38 :: t) : (nextL l).1 = 38 := by rw [h]; exact next38 t
theorem peek0 (a : UInt8) (t : List UInt8) : peekV (a :: t) 0 = (a.toNat : Int) := by simp [peekV, at']
theorem peekS (a : UInt8) (t : List UInt8) (k : Nat) : peekV (a :: t) (k + 1) = peekV t k := by simp [peekV, at']
theorem step_amp (v : Bool) (t : List UInt8) : stepU v (amp ++ t) = (putL 38, 5, 0) := by
  have h : refL (amp ++ t) = (38, 5) := by simp [refL, preB, amp, List.isPrefixOf]
  rw [step_ref (l := amp ++ t) (next38' ([97, 109, 112, 59] ++ t) rfl) h, if_neg (by decide), if_neg (by decide)]
theorem step_lt (v : Bool) (t : List UInt8) : stepU v (lt ++ t) = (putL 60, 4, 0) := by
  have h : refL (lt ++ t) = (60, 4) := by simp [refL, preB, amp, lt, List.isPrefixOf]
  rw [step_ref (l := lt ++ t) (next38' ([108, 116, 59] ++ t) rfl) h, if_neg (by decide), if_neg (by decide)]
theorem step_gt (v : Bool) (t : List UInt8) : stepU v (gt ++ t) = (putL 62, 4, 0) := by
  have h : refL (gt ++ t) = (62, 4) := by simp [refL, preB, amp, lt, gt, List.isPrefixOf]
  rw [step_ref (l := gt ++ t) (next38' ([103, 116, 59] ++ t) rfl) h, if_neg (by decide), if_neg (by decide)]
theorem step_quot (v : Bool) (t : List UInt8) : stepU v (quot ++ t) = (putL 34, 6, 0) := by
  have h : refL (quot ++ t) = (34, 6) := by simp [refL, preB, amp, lt, gt, quot, List.isPrefixOf]
  rw [step_ref (l := quot ++ t) (next38' ([113, 117, 111, 116, 59] ++ t) rfl) h, if_neg (by decide), if_neg (by decide)]
theorem step_num (v : Bool) (l : List UInt8) (c : Int) (n : Nat) (h0 : (nextL l).1 = 38) (h1 : peekV l 1 = 35) (h2 : peekV l 2 ≠ 120) (h : numL 10 2 l = (c, n)) (hn : n ≠ 0) (hc : charB c = true) : stepU v l = (putL c, n, 0) := by
  have e : refL l = (c, n) := by rw [ref_at35 l h1, if_neg h2, h]
  rw [step_ref h0 e, if_neg hn, if_neg (by rw [hc]; simp)]
theorem step_13 (v : Bool) (t : List UInt8) : stepU v (r13 ++ t) = (putL 13, 5, 0) := by
  have e : numL 10 2 (r13 ++ t) = (13, 5) := by
    have := num_yes (base := 10) (by decide) (o := 2) (l := r13 ++ t) (k := 2) (by decide) (by rw [numB_iff]; simp [r13, allD, peekS, peek0]; decide)
    rw [this]
    simp [r13, valD, peekS, peek0]
    decide
  exact step_num v _ 13 5 (next38' ([35, 49, 51, 59] ++ t) rfl) (by simp [r13, peekS, peek0]) (by simp [r13, peekS, peek0]) e (by decide) (by decide)
theorem step_10 (v : Bool) (t : List UInt8) : stepU v (r10 ++ t) = (putL 10, 5, 0) := by
  have e : numL 10 2 (r10 ++ t) = (10, 5) := by
    have := num_yes (base := 10) (by decide) (o := 2) (l := r10 ++ t) (k := 2) (by decide) (by rw [numB_iff]; simp [r10, allD, peekS, peek0]; decide)
    rw [this]
    simp [r10, valD, peekS, peek0]
    decide
  exact step_num v _ 10 5 (next38' ([35, 49, 48, 59] ++ t) rfl) (by simp [r10, peekS, peek0]) (by simp [r10, peekS, peek0]) e (by decide) (by decide)
theorem step_9 (v : Bool) (t : List UInt8) : stepU v (r9 ++ t) = (putL 9, 4, 0) := by
  have e : numL 10 2 (r9 ++ t) = (9, 4) := by
    have := num_yes (base := 10) (by decide) (o := 2) (l := r9 ++ t) (k := 1) (by decide) (by rw [numB_iff]; simp [r9, allD, peekS, peek0]; decide)
    rw [this]
    simp [r9, valD, peekS, peek0]
    decide
  exact step_num v _ 9 4 (next38' ([35, 57, 59] ++ t) rfl) (by simp [r9, peekS, peek0]) (by simp [r9, peekS, peek0]) e (by decide) (by decide)
/-- Where nothing stands instead of a character, it is none of those that mean something. -/
theorem self_ne {c : Int} {v : Bool} (h : insteadL c v = []) : c ≠ 38 ∧ c ≠ 60 ∧ c ≠ 62 ∧ c ≠ 13 ∧ (v = true → c ≠ 34 ∧ c ≠ 9 ∧ c ≠ 10) := by
  refine ⟨?_, ?_, ?_, ?_, ?_⟩
  · rintro rfl; revert h; cases v <;> decide
  · rintro rfl; revert h; cases v <;> decide
  · rintro rfl; revert h; cases v <;> decide
  · rintro rfl; revert h; cases v <;> decide
  · rintro rfl
    refine ⟨?_, ?_, ?_⟩
    · rintro rfl; revert h; decide
    · rintro rfl; revert h; decide
    · rintro rfl; revert h; decide
theorem instead_cases (c : Int) (v : Bool) (h : insteadL c v ≠ []) : (c = 38 ∧ insteadL c v = amp) ∨ (c = 60 ∧ insteadL c v = lt) ∨ (c = 62 ∧ insteadL c v = gt) ∨ (c = 13 ∧ insteadL c v = r13) ∨ (c = 34 ∧ v = true ∧ insteadL c v = quot) ∨ (c = 9 ∧ v = true ∧ insteadL c v = r9) ∨ (c = 10 ∧ v = true ∧ insteadL c v = r10) := by
  unfold insteadL at *
  repeat' (split at h)
  all_goals simp_all
theorem step_esc (v : Bool) (c : Int) (hc : charB c = true) (t : List UInt8) : stepU v (escC v c ++ t) = (putL c, (escC v c).length, 0) := by
  by_cases h : insteadL c v = []
  · rw [esc_self h]
    have hn := put_next c hc t
    obtain ⟨a1, a2, a3, _, _⟩ := self_ne h
    have n1 : (nextL (putL c ++ t)).1 = c := by rw [hn]
    have n2 : (nextL (putL c ++ t)).2 = (putL c).length := by rw [hn]; simp [putL]
    have := putL_len c
    rw [step_self (v := v) (by rw [n1]; exact a1) (by rw [n1]; exact a2) (by rw [n1]; exact a3) (by rw [n2]; omega) (by rw [n1]; exact h), n2]
    simp
  · rw [esc_other h]
    rcases instead_cases c v h with ⟨rfl, e⟩ | ⟨rfl, e⟩ | ⟨rfl, e⟩ | ⟨rfl, e⟩ | ⟨rfl, rfl, e⟩ | ⟨rfl, rfl, e⟩ | ⟨rfl, rfl, e⟩
    · rw [e, step_amp]; rfl
    · rw [e, step_lt]; rfl
    · rw [e, step_gt]; rfl
    · rw [e, step_13]; rfl
    · rw [e, step_quot]; rfl
    · rw [e, step_9]; rfl
    · rw [e, step_10]; rfl
theorem esc_ne (v : Bool) (c : Int) : 1 ≤ (escC v c).length := by
  unfold escC
  split
  · exact (putL_len c).1
  · rename_i h
    have : (insteadL c v).length ≠ 0 := fun q => h (List.eq_nil_of_length_eq_zero q)
    omega
theorem undo_esc (v : Bool) : ∀ (cs : List Int) (f o : Nat) (acc : List UInt8), (∀ c ∈ cs, charB c = true) → (cs.flatMap (escC v)).length < f → undoF v f o acc (cs.flatMap (escC v)) = (acc ++ cs.flatMap putL, o + (cs.flatMap (escC v)).length, 0)
  | [], f, o, acc, _, _ => by simp [undoF_nil]
  | c :: cs, f, o, acc, hc, hf => by
    have e := step_esc v c (hc c (by simp)) (cs.flatMap (escC v))
    have hl := esc_ne v c
    rw [List.flatMap_cons] at hf ⊢
    rw [List.length_append] at hf
    rw [undoF_ok (by intro q; have := congrArg List.length q; simp at this; have := this.1; rw [this] at hl; simp at hl) (by rw [List.length_append]; omega) e]
    rw [List.drop_left, undo_esc v cs (f - 1) _ _ (fun x hx => hc x (List.mem_cons_of_mem _ hx)) (by omega)]
    simp
    omega
/-- P2.3. -/
theorem back (v : Bool) (l m : List UInt8) (h : escL v l = some m) : undoL v m = (l, m.length, 0) := by
  unfold escL at h
  obtain ⟨cs, hc, rfl⟩ := Option.map_eq_some_iff.1 h
  obtain ⟨a, b⟩ := chars_flat _ l cs (Nat.le_refl _) hc
  unfold undoL
  rw [undo_esc v cs _ 0 [] b (by omega), a]
  simp
theorem putN_high (c : Int) (h0 : 128 ≤ c) (h1 : c ≤ 1114111) : ∀ x ∈ putN c, 128 ≤ x ∧ x < 256 := by
  intro x hx
  unfold putN at hx
  split at hx
  · omega
  · split at hx
    · simp at hx; omega
    · split at hx <;> (simp at hx; omega)
def plainB (b : UInt8) : Bool := b != 60 && b != 62 && b != 34 && b != 9 && b != 10 && b != 13
theorem plain_of {b : UInt8} (h : ∀ k ∈ [60, 62, 34, 9, 10, 13], b.toNat ≠ k) : plainB b = true := by
  unfold plainB
  simp only [Bool.and_eq_true, bne_iff_ne, ne_eq]
  refine ⟨⟨⟨⟨⟨?_, ?_⟩, ?_⟩, ?_⟩, ?_⟩, ?_⟩ <;> (rintro rfl; revert h; decide)
theorem esc_plain (c : Int) (hc : charB c = true) : ∀ b ∈ escC true c, plainB b = true := by
  intro b hb
  by_cases h : insteadL c true = []
  · rw [esc_self h] at hb
    obtain ⟨a1, a2, a3, a4, a5⟩ := self_ne h
    obtain ⟨a6, a7, a8⟩ := a5 rfl
    have hr := char_range c hc
    have hb2 : (b.toNat : Int) ∈ nums (putL c) := by unfold nums; exact List.mem_map_of_mem hb
    rw [nums_putL c (by omega) hr.2] at hb2
    by_cases small : c < 128
    · rw [put1 c small] at hb2
      simp at hb2
      refine plain_of fun k hk => ?_
      simp at hk
      omega
    · have := putN_high c (by omega) hr.2 _ hb2
      refine plain_of fun k hk => ?_
      simp at hk
      omega
  · rw [esc_other h] at hb
    rcases instead_cases c true h with ⟨_, e⟩ | ⟨_, e⟩ | ⟨_, e⟩ | ⟨_, e⟩ | ⟨_, _, e⟩ | ⟨_, _, e⟩ | ⟨_, _, e⟩
    all_goals
      rw [e] at hb
      revert hb b
      decide
theorem escL_plain (l m : List UInt8) (h : escL true l = some m) : ∀ b ∈ m, plainB b = true := by
  unfold escL at h
  obtain ⟨cs, hc, rfl⟩ := Option.map_eq_some_iff.1 h
  obtain ⟨_, q⟩ := chars_flat _ l cs (Nat.le_refl _) hc
  intro b hb
  obtain ⟨c, hc, hb⟩ := List.mem_flatMap.1 hb
  exact esc_plain c (q c hc) b hb
theorem put_le (v : Bool) (c : Int) : (putL c).length ≤ (escC v c).length := by
  unfold escC
  split
  · exact Nat.le_refl _
  · rename_i h
    rcases instead_cases c v h with ⟨rfl, e⟩ | ⟨rfl, e⟩ | ⟨rfl, e⟩ | ⟨rfl, e⟩ | ⟨rfl, _, e⟩ | ⟨rfl, _, e⟩ | ⟨rfl, _, e⟩ <;> (rw [e]; decide)
theorem esc_le (c : Int) : (escC false c).length ≤ (escC true c).length := by
  by_cases h : insteadL c false = []
  · rw [esc_self h]; exact put_le true c
  · have : insteadL c true = insteadL c false := by
      rcases instead_cases c false h with ⟨rfl, _⟩ | ⟨rfl, _⟩ | ⟨rfl, _⟩ | ⟨rfl, _⟩ | ⟨_, q, _⟩ | ⟨_, q, _⟩ | ⟨_, q, _⟩
      all_goals first | rfl | cases q
    rw [esc_other h, esc_other (by rw [this]; exact h), this]
    exact Nat.le_refl _
theorem flat_le (f g : Int → List UInt8) (h : ∀ c, (f c).length ≤ (g c).length) : ∀ cs : List Int, (cs.flatMap f).length ≤ (cs.flatMap g).length
  | [] => by simp
  | c :: cs => by
    have := flat_le f g h cs
    have := h c
    simp only [List.flatMap_cons, List.length_append]
    omega
theorem longer (l : List UInt8) (cs : List Int) (h : chars l = some cs) : l.length ≤ (cs.flatMap (escC false)).length ∧ (cs.flatMap (escC false)).length ≤ (cs.flatMap (escC true)).length := by
  obtain ⟨a, _⟩ := chars_flat _ l cs (Nat.le_refl _) h
  refine ⟨?_, flat_le _ _ esc_le cs⟩
  conv => lhs; rw [← a]
  exact flat_le _ _ (put_le false) cs
theorem flat_six (v : Bool) : ∀ cs : List Int, (cs.flatMap (escC v)).length ≤ 6 * cs.length
  | [] => by simp
  | c :: cs => by
    have := flat_six v cs
    have := esc_len v c
    simp only [List.flatMap_cons, List.length_append, List.length_cons]
    omega
theorem escL_len (v : Bool) (l m : List UInt8) (h : escL v l = some m) : m.length ≤ 6 * l.length := by
  unfold escL at h
  obtain ⟨cs, hc, rfl⟩ := Option.map_eq_some_iff.1 h
  have := flat_six v cs
  have := chars_len _ l cs (Nat.le_refl _) hc
  omega
theorem joins (v : Bool) (a b x y : List UInt8) (ha : escL v a = some x) (hb : escL v b = some y) : escL v (a ++ b) = some (x ++ y) := by
  unfold escL at *
  obtain ⟨xs, hx, rfl⟩ := Option.map_eq_some_iff.1 ha
  obtain ⟨ys, hy, rfl⟩ := Option.map_eq_some_iff.1 hb
  rw [chars_append a b _ xs ys (Nat.le_refl _) hx hy]
  simp
end E
end Go.Proofs.YtmgemdhpjibdiaaDoor
