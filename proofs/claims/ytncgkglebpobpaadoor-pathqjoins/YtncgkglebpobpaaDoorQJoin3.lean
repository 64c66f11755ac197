/- Plain mathematics: two queries, one behind the other, are the steps of both, more. -/
import Derived.Test.YtncgkglebpobpaaDoorQJoin2
namespace Go.Proofs.YtncgkglebpobpaaDoor
namespace Q
open L G E S
theorem one_le {q : ByteArray} {i : Nat} {c : UInt8} (hi : i ≤ q.size) (h : ¬ thereB q i [c] = false) : i + 1 ≤ q.size := there_le (t := [c]) hi (by simpa using h)
theorem value_app {a b : ByteArray} (hb : SlashB b) {i n : Nat} {v : ByteArray} (hi : i ≤ a.size) (h : valueQ a i = .ok (v, n)) : valueQ (a ++ b) i = .ok (v, n) := by
  unfold valueQ at h ⊢
  simp only at h ⊢
  by_cases h1 : thereB a i [34] = false
  · rw [if_pos h1] at h; cases h
  · rw [if_neg h1] at h
    have h1' : ¬ thereB (a ++ b) i [34] = false := by rw [there_app hb hi _ (by simp)]; exact h1
    have hi1 : i + 1 ≤ a.size := one_le hi h1
    rw [if_neg h1']
    by_cases h2 : a.size ≤ runP (notB 34) a (i + 1)
    · rw [if_pos h2] at h; cases h
    · rw [if_neg h2] at h
      have hr : runP (notB 34) (a ++ b) (i + 1) = runP (notB 34) a (i + 1) := run_app (by omega)
      rw [hr, ext_app a b hi1 (by omega), if_neg (by rw [app_size]; omega)]
      exact h
theorem number_app {a b : ByteArray} (hb : SlashB b) {i n : Nat} {p : Pred} (hi : i ≤ a.size) (h : numberQ a i = .ok (p, n)) : numberQ (a ++ b) i = .ok (p, n) := by
  unfold numberQ at h ⊢
  simp only at h ⊢
  rw [run_slash hb hi digitB (by decide), there_app hb hi _ (by simp), ext_app a b hi (run_le hi)]
  exact h
theorem pred_app {a b : ByteArray} (hb : SlashB b) {i n : Nat} {p : Pred} (hi : i ≤ a.size) (h : predQ a i = .ok (p, n)) : predQ (a ++ b) i = .ok (p, n) := by
  unfold predQ at h ⊢
  rw [there_app hb hi lastW (by decide), there_app hb hi textW (by decide), there_app hb hi [64] (by decide)]
  by_cases h1 : thereB a i lastW = true
  · rw [if_pos h1] at h ⊢; exact h
  · rw [if_neg h1] at h ⊢
    by_cases h2 : thereB a i textW = true
    · have hi6 : i + 6 ≤ a.size := there_le hi h2
      rw [if_pos h2] at h ⊢
      rw [there_app hb hi6 [61] (by decide)]
      by_cases h3 : thereB a (i + 6) [61] = false
      · rw [if_pos h3] at h; cases h
      · have hi7 : i + 6 + 1 ≤ a.size := one_le hi6 h3
        rw [if_neg h3] at h ⊢
        cases hv : valueQ a (i + 7) with
        | error e => rw [hv] at h; cases h
        | ok z =>
          obtain ⟨v, m⟩ := z
          rw [hv] at h
          rw [value_app hb hi7 hv]
          exact h
    · rw [if_neg h2] at h ⊢
      by_cases h3 : thereB a i [64] = false
      · rw [if_pos h3] at h ⊢
        exact number_app hb hi h
      · have hi1 : i + 1 ≤ a.size := one_le hi h3
        have hne := nameEnd_le hi1
        rw [if_neg h3] at h ⊢
        simp only at h ⊢
        rw [nameEnd_app hb hi1, ext_app a b hi1 hne.2, there_app hb hne.2 [61] (by decide)]
        by_cases h4 : nameP (a.extract (i + 1) (nameEnd a (i + 1))) = false
        · rw [if_pos h4] at h; cases h
        · rw [if_neg h4] at h ⊢
          by_cases h5 : thereB a (nameEnd a (i + 1)) [61] = false
          · rw [if_pos h5] at h ⊢; exact h
          · have hn1 : nameEnd a (i + 1) + 1 ≤ a.size := one_le hne.2 h5
            rw [if_neg h5] at h ⊢
            cases hv : valueQ a (nameEnd a (i + 1) + 1) with
            | error e => rw [hv] at h; cases h
            | ok z =>
              obtain ⟨v, m⟩ := z
              rw [hv] at h
              rw [value_app hb hn1 hv]
              exact h
theorem preds_app {a b : ByteArray} (hb : SlashB b) {n : Nat} {l : List Pred} : ∀ (f i : Nat) (acc : List Pred), i ≤ a.size → predsF f a i acc = .ok (l, n) → predsF f (a ++ b) i acc = .ok (l, n)
  | 0, i, acc, _, h => h
  | f + 1, i, acc, hi, h => by
    unfold predsF at h ⊢
    rw [there_app hb hi [91] (by decide)]
    by_cases h1 : thereB a i [91] = false
    · rw [if_pos h1] at h ⊢; exact h
    · have hi1 : i + 1 ≤ a.size := one_le hi h1
      rw [if_neg h1] at h ⊢
      by_cases h2 : acc.length = 5
      · rw [if_pos h2] at h; cases h
      · rw [if_neg h2] at h ⊢
        have ht := pred_told hi1
        cases hp : predQ a (i + 1) with
        | error e => rw [hp] at h; cases h
        | ok z =>
          obtain ⟨p, m⟩ := z
          rw [hp] at h ht
          rw [pred_app hb hi1 hp]
          simp only at h ⊢
          have hm : m ≤ a.size := ht.2.1
          rw [there_app hb hm [93] (by decide)]
          by_cases h3 : thereB a m [93] = false
          · rw [if_pos h3] at h; cases h
          · rw [if_neg h3] at h ⊢
            exact preds_app hb f (m + 1) _ (one_le hm h3) h
theorem predsQ_app {a b : ByteArray} (hb : SlashB b) {i n : Nat} {s0 s : Step} (hi : i ≤ a.size) (h : predsQ a i s0 = .ok (s, n)) : predsQ (a ++ b) i s0 = .ok (s, n) := by
  unfold predsQ at h ⊢
  cases hp : predsF 6 a i [] with
  | error e => rw [hp] at h; cases h
  | ok z =>
    obtain ⟨l, m⟩ := z
    rw [hp] at h
    rw [preds_app hb 6 i [] hi hp]
    exact h
theorem axis_app {a b : ByteArray} (hb : SlashB b) {i : Nat} (hi : i ≤ a.size) : ∀ (l : List (Int × List UInt8)), (∀ x ∈ l, ∀ c ∈ x.2, c ≠ 47) → axisF (a ++ b) i l = axisF a i l
  | [], _ => rfl
  | x :: l, h => by
    unfold axisF
    rw [there_app hb hi x.2 (h x (List.mem_cons_self ..)), axis_app hb hi l (fun y hy => h y (List.mem_cons_of_mem _ hy))]
theorem tested_app {a b : ByteArray} (hb : SlashB b) {i n : Nat} {ax : Int} {s : Step} (hi : i ≤ a.size) (h : testedQ a i ax = .ok (s, n)) : testedQ (a ++ b) i ax = .ok (s, n) := by
  unfold testedQ at h ⊢
  rw [there_app hb hi [42] (by decide), there_app hb hi textW (by decide), there_app hb hi nodeW (by decide)]
  by_cases h1 : thereB a i [42] = true
  · rw [if_pos h1] at h ⊢; exact predsQ_app hb (there_le hi h1) h
  · rw [if_neg h1] at h ⊢
    by_cases h2 : thereB a i textW = true
    · rw [if_pos h2] at h ⊢; exact predsQ_app hb (there_le hi h2) h
    · rw [if_neg h2] at h ⊢
      by_cases h3 : thereB a i nodeW = true
      · rw [if_pos h3] at h ⊢; exact predsQ_app hb (there_le hi h3) h
      · rw [if_neg h3] at h ⊢
        have hne := nameEnd_le hi
        simp only at h ⊢
        rw [nameEnd_app hb hi, ext_app a b hi hne.2]
        by_cases h4 : nameP (a.extract i (nameEnd a i)) = false
        · rw [if_pos h4] at h; cases h
        · rw [if_neg h4] at h ⊢
          exact predsQ_app hb hne.2 h
theorem step_app {a b : ByteArray} (hb : SlashB b) {i n : Nat} {s : Step} (hi : i ≤ a.size) (h : stepQ a i = .ok (s, n)) : stepQ (a ++ b) i = .ok (s, n) := by
  unfold stepQ at h ⊢
  rw [there_app hb hi [46, 46] (by decide), there_app hb hi [46] (by decide), axis_app hb hi axes (by decide)]
  by_cases h1 : thereB a i [46, 46] = true
  · rw [if_pos h1] at h ⊢; exact h
  · rw [if_neg h1] at h ⊢
    by_cases h2 : thereB a i [46] = true
    · rw [if_pos h2] at h ⊢; exact h
    · rw [if_neg h2] at h ⊢
      have := axis_told hi axes (by decide)
      exact tested_app hb this.2.1 h
theorem there_end (a : ByteArray) (c : UInt8) (t : List UInt8) : thereB a a.size (c :: t) = false := by
  unfold thereB
  rw [L.drop_end a a.size (Nat.le_refl _)]
  rfl
theorem name_none : nameP ⟨#[]⟩ = false := by decide
theorem tested_end (a : ByteArray) (ax : Int) : ∃ e, testedQ a a.size ax = .error e := by
  unfold testedQ
  rw [there_end, show textW = 116 :: [101, 120, 116, 40, 41] from rfl, there_end, show nodeW = 110 :: [111, 100, 101, 40, 41] from rfl, there_end]
  simp only [Bool.false_eq_true, if_false]
  have hn : nameEnd a a.size = a.size := by
    unfold nameEnd
    rw [L.drop_end a a.size (Nat.le_refl _), name_stop (Or.inl rfl)]
    omega
  have he : a.extract a.size a.size = ⟨#[]⟩ := L.bytes_one (by rw [Lib.extract_data]; simp)
  rw [hn, he, if_pos name_none]
  exact ⟨_, rfl⟩
theorem axis_end (a : ByteArray) : ∀ (l : List (Int × List UInt8)), (∀ x ∈ l, x.2 ≠ []) → axisF a a.size l = (1, a.size)
  | [], _ => rfl
  | x :: l, h => by
    unfold axisF
    have hx := h x (List.mem_cons_self ..)
    obtain ⟨c, t, e⟩ : ∃ c t, x.2 = c :: t := by cases hh : x.2 with | nil => exact absurd hh hx | cons c t => exact ⟨c, t, rfl⟩
    rw [e, there_end, if_neg (by simp)]
    exact axis_end a l (fun y hy => h y (List.mem_cons_of_mem _ hy))
theorem step_end (a : ByteArray) : ∃ e, stepQ a a.size = .error e := by
  unfold stepQ
  rw [there_end, there_end, axis_end a axes (by decide)]
  simp only [Bool.false_eq_true, if_false]
  exact tested_end a 1
/-- What was read of the first one, and then the rest. -/
theorem parse_first {a b : ByteArray} (hb : SlashB b) {l : List Step} : ∀ (f i : Nat) (acc : List Step), i ≤ a.size → a.size - i < f → parseF f a i acc = .ok l → ∀ g, a.size - i < g → l ≠ [] ∧ ∃ g', g ≤ g' + (a.size - i) ∧ parseF g (a ++ b) i acc = parseF g' (a ++ b) a.size l
  | 0, i, acc, _, hf, _, _, _ => by omega
  | f + 1, i, acc, hi, hf, h, g, hg => by
    unfold parseF at h
    by_cases h0 : a.size ≤ i ∧ acc ≠ []
    · rw [if_pos h0] at h
      simp only [Except.ok.injEq] at h
      subst h
      obtain rfl : i = a.size := by omega
      exact ⟨h0.2, g, by omega, rfl⟩
    · rw [if_neg h0] at h
      by_cases h1 : thereB a i [47] = false
      · rw [if_pos h1] at h; cases h
      · rw [if_neg h1] at h
        have h1' : thereB a i [47] = true := by simpa using h1
        have hi1 : i + 1 ≤ a.size := there_le hi h1'
        have e1 : thereB (a ++ b) i [47] = true := by rw [L.app_there1 47 (by omega)]; exact h1'
        obtain ⟨g, rfl⟩ : ∃ k, g = k + 1 := ⟨g - 1, by omega⟩
        by_cases hlt : i + 1 < a.size
        · have e2 : thereB (a ++ b) (i + 1) [47] = thereB a (i + 1) [47] := L.app_there1 47 hlt
          have hy : (if thereB a (i + 1) [47] = true then i + 2 else i + 1) ≤ a.size ∧ i < (if thereB a (i + 1) [47] = true then i + 2 else i + 1) := by split <;> omega
          simp only at h
          have hL : parseF (g + 1) (a ++ b) i acc = if 20 ≤ (if thereB a (i + 1) [47] = true then acc ++ [(⟨3, 4, noB, []⟩ : Step)] else acc).length then .error ((i : Int), 70) else match stepQ (a ++ b) (if thereB a (i + 1) [47] = true then i + 2 else i + 1) with
              | .error e => .error e
              | .ok (s, n) => parseF g (a ++ b) n ((if thereB a (i + 1) [47] = true then acc ++ [(⟨3, 4, noB, []⟩ : Step)] else acc) ++ [s]) := by
            conv => lhs; unfold parseF
            rw [if_neg (by rintro ⟨q1, _⟩; rw [app_size] at q1; omega), if_neg (by rw [e1]; simp), e2]
            simp only
            generalize (if thereB a (i + 1) [47] = true then i + 2 else i + 1) = y
            cases stepQ (a ++ b) y <;> rfl
          rw [hL]
          generalize (if thereB a (i + 1) [47] = true then acc ++ [(⟨3, 4, noB, []⟩ : Step)] else acc) = x at *
          generalize (if thereB a (i + 1) [47] = true then i + 2 else i + 1) = y at *
          by_cases h2 : 20 ≤ x.length
          · rw [if_pos h2] at h; cases h
          · rw [if_neg h2] at h ⊢
            have ht := step_told hy.1
            cases hs : stepQ a y with
            | error e => rw [hs] at h; cases h
            | ok z =>
              obtain ⟨s, n⟩ := z
              rw [hs] at h ht
              simp only at h
              have hn1 : y ≤ n := ht.1
              have hn2 : n ≤ a.size := ht.2.1
              rw [step_app hb hy.1 hs]
              simp only
              obtain ⟨hl, g', hg', he⟩ := parse_first hb f n _ hn2 (by omega) h g (by omega)
              exact ⟨hl, g', by omega, he⟩
        · obtain he : i + 1 = a.size := by omega
          simp only at h
          rw [he, there_end] at h
          simp only [Bool.false_eq_true, if_false] at h
          obtain ⟨e, hs⟩ := step_end a
          rw [hs] at h
          split at h <;> cases h
theorem parse_more {q : ByteArray} {m : List Step} : ∀ (f i : Nat) (acc : List Step), parseF f q i acc = .ok m → acc.length ≤ m.length
  | 0, i, acc, h => by
    simp only [parseF, Except.ok.injEq] at h
    rw [h]
    exact Nat.le_refl _
  | f + 1, i, acc, h => by
    unfold parseF at h
    split at h
    · simp only [Except.ok.injEq] at h; rw [h]; exact Nat.le_refl _
    · split at h
      · cases h
      · simp only at h
        have hx : acc.length ≤ (if thereB q (i + 1) [47] = true then acc ++ [(⟨3, 4, noB, []⟩ : Step)] else acc).length := by split <;> simp
        generalize (if thereB q (i + 1) [47] = true then acc ++ [(⟨3, 4, noB, []⟩ : Step)] else acc) = x at *
        generalize (if thereB q (i + 1) [47] = true then i + 2 else i + 1) = y at *
        split at h
        · cases h
        · split at h
          · cases h
          · have := parse_more f _ _ h
            rw [List.length_append] at this
            simp only [List.length_singleton] at this
            omega
/-- The second one, behind the first one's steps. -/
theorem parse_second {a b : ByteArray} {l m : List Step} (hl : l ≠ []) : ∀ (f j : Nat) (acc : List Step), j ≤ b.size → b.size - j < f → parseF f b j acc = .ok m → (l ++ acc).length ≤ 20 → ∀ g, b.size - j < g →
    (l.length + m.length ≤ 20 → parseF g (a ++ b) (a.size + j) (l ++ acc) = .ok (l ++ m)) ∧ (20 < l.length + m.length → ∃ z, parseF g (a ++ b) (a.size + j) (l ++ acc) = .error (z, 70))
  | 0, j, acc, _, hf, _, _, _, _ => by omega
  | f + 1, j, acc, hj, hf, h, h20, g, hg => by
    obtain ⟨g, rfl⟩ : ∃ k, g = k + 1 := ⟨g - 1, by omega⟩
    unfold parseF at h
    by_cases h0 : b.size ≤ j ∧ acc ≠ []
    · rw [if_pos h0] at h
      simp only [Except.ok.injEq] at h
      subst h
      have he : parseF (g + 1) (a ++ b) (a.size + j) (l ++ acc) = .ok (l ++ acc) := by
        unfold parseF
        rw [if_pos ⟨by rw [app_size]; omega, by simp [hl]⟩]
      rw [List.length_append] at h20
      exact ⟨fun _ => he, fun q => by omega⟩
    · rw [if_neg h0] at h
      by_cases h1 : thereB b j [47] = false
      · rw [if_pos h1] at h; cases h
      · rw [if_neg h1] at h
        have h1' : thereB b j [47] = true := by simpa using h1
        have hj1 : j + 1 ≤ b.size := there_le hj h1'
        have e1 : thereB (a ++ b) (a.size + j) [47] = true := by rw [there_shift]; exact h1'
        have e2 : thereB (a ++ b) (a.size + j + 1) [47] = thereB b (j + 1) [47] := by rw [Nat.add_assoc, there_shift]
        simp only at h
        have hy : j + 1 ≤ (if thereB b (j + 1) [47] = true then j + 2 else j + 1) ∧ (if thereB b (j + 1) [47] = true then j + 2 else j + 1) ≤ b.size := by
          split
          · rename_i h2
            have := there_le hj1 h2
            simp only [List.length_cons, List.length_nil] at this
            omega
          · omega
        have hL : parseF (g + 1) (a ++ b) (a.size + j) (l ++ acc) = if 20 ≤ (l ++ (if thereB b (j + 1) [47] = true then acc ++ [(⟨3, 4, noB, []⟩ : Step)] else acc)).length then .error (((a.size + j : Nat) : Int), 70) else match stepQ (a ++ b) (a.size + (if thereB b (j + 1) [47] = true then j + 2 else j + 1)) with
            | .error e => .error e
            | .ok (s, n) => parseF g (a ++ b) n ((l ++ (if thereB b (j + 1) [47] = true then acc ++ [(⟨3, 4, noB, []⟩ : Step)] else acc)) ++ [s]) := by
          conv => lhs; unfold parseF
          rw [if_neg (by rintro ⟨q1, _⟩; rw [app_size] at q1; omega), if_neg (by rw [e1]; simp), e2]
          simp only
          have x1 : (if thereB b (j + 1) [47] = true then l ++ acc ++ [(⟨3, 4, noB, []⟩ : Step)] else l ++ acc) = l ++ (if thereB b (j + 1) [47] = true then acc ++ [(⟨3, 4, noB, []⟩ : Step)] else acc) := by split <;> simp
          have x2 : (if thereB b (j + 1) [47] = true then a.size + j + 2 else a.size + j + 1) = a.size + (if thereB b (j + 1) [47] = true then j + 2 else j + 1) := by split <;> omega
          rw [x1, x2]
          generalize (if thereB b (j + 1) [47] = true then j + 2 else j + 1) = y
          cases stepQ (a ++ b) (a.size + y) <;> rfl
        rw [hL]
        generalize (if thereB b (j + 1) [47] = true then acc ++ [(⟨3, 4, noB, []⟩ : Step)] else acc) = x at *
        generalize (if thereB b (j + 1) [47] = true then j + 2 else j + 1) = y at *
        by_cases h2 : 20 ≤ x.length
        · rw [if_pos h2] at h; cases h
        · rw [if_neg h2] at h
          have ht := step_told hy.2
          rw [step_shift]
          cases hs : stepQ b y with
          | error e => rw [hs] at h; cases h
          | ok z =>
            obtain ⟨s, n⟩ := z
            rw [hs] at h ht
            simp only at h
            have hn1 : y ≤ n := ht.1
            have hn2 : n ≤ b.size := ht.2.1
            have hmore := parse_more f _ _ h
            rw [List.length_append] at hmore
            simp only [List.length_singleton] at hmore
            by_cases h3 : 20 ≤ (l ++ x).length
            · rw [if_pos h3]
              rw [List.length_append] at h3
              exact ⟨fun q => by omega, fun _ => ⟨_, rfl⟩⟩
            · rw [if_neg h3]
              simp only [shR]
              rw [List.append_assoc]
              exact parse_second hl f n (x ++ [s]) hn2 (by omega) h (by rw [List.length_append] at h3 ⊢; simp only [List.length_append, List.length_singleton]; omega) g (by omega)
theorem parse_join {a b : ByteArray} {l m : List Step} (h1 : parseP a = .ok l) (h2 : parseP b = .ok m) (hs : a.size + b.size ≤ 200) : (l.length + m.length ≤ 20 → parseP (a ++ b) = .ok (l ++ m)) ∧ (20 < l.length + m.length → ∃ z, parseP (a ++ b) = .error (z, 70)) := by
  have hr := parse_right h1
  unfold parseP at h1 h2 ⊢
  rw [if_neg (by omega)] at h1 h2
  rw [if_neg (by rw [app_size]; omega)]
  have hb : SlashB b := by
    have h := h2
    unfold parseF at h
    rw [if_neg (by simp)] at h
    by_cases h3 : thereB b 0 [47] = false
    · rw [if_pos h3] at h; cases h
    · obtain ⟨r, hr⟩ : ∃ r, b.data.toList = 47 :: r := by
        unfold thereB at h3
        rw [List.drop_zero] at h3
        cases hh : b.data.toList with
        | nil => rw [hh] at h3; simp at h3
        | cons c r =>
          rw [hh] at h3
          simp [List.isPrefixOf] at h3
          exact ⟨r, by rw [h3]⟩
      exact ⟨r, hr⟩
  obtain ⟨hl, g', hg, he⟩ := parse_first hb (a.size + 1) 0 [] (Nat.zero_le _) (by omega) h1 ((a ++ b).size + 1) (by rw [app_size]; omega)
  rw [he]
  have := parse_second (a := a) hl (b.size + 1) 0 [] (Nat.zero_le _) (by omega) h2 (by simpa using hr.2.1) g' (by rw [app_size] at hg; omega)
  simpa using this
end Q
end Go.Proofs.YtncgkglebpobpaaDoor
