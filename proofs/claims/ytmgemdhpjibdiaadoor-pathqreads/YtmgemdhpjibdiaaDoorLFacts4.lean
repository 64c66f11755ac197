/- Plain mathematics for layer lexis, more: a tag is told alike, whatever stands behind it. -/
import Derived.Test.YtmgemdhpjibdiaaDoorLFacts3
namespace Go.Proofs.YtmgemdhpjibdiaaDoor
namespace L
open G E
theorem bytes_one {a b : ByteArray} (h : a.data.toList = b.data.toList) : a = b := by
  cases a
  cases b
  simp_all
theorem app_list (s m : ByteArray) : (s ++ m).data.toList = s.data.toList ++ m.data.toList := by simp [ByteArray.data_append]
theorem app_size (s m : ByteArray) : (s ++ m).size = s.size + m.size := by simp
theorem app_drop (s m : ByteArray) (i : Nat) (hi : i ≤ s.size) : (s ++ m).data.toList.drop i = s.data.toList.drop i ++ m.data.toList := by
  rw [app_list, List.drop_append_of_le_length (by simpa using hi)]
theorem run_app {p : UInt8 → Bool} {s m : ByteArray} {i : Nat} (h : runP p s i < s.size) : runP p (s ++ m) i = runP p s i := by
  have hi : i ≤ s.size := by have := run_ge p s i; omega
  unfold runP at *
  rw [app_drop s m i hi, List.takeWhile_append]
  rw [if_neg]
  intro q
  rw [q] at h
  simp at h
  omega
theorem app_extract {s m : ByteArray} {i j : Nat} (hj : j ≤ s.size) : (s ++ m).extract i j = s.extract i j := by
  apply bytes_one
  rw [Lib.extract_data, Lib.extract_data]
  by_cases hi : i ≤ s.size
  · rw [app_drop s m i hi, List.take_append_of_le_length (by simp; omega)]
  · have e : j - i = 0 := by omega
    simp [e]
theorem app_there1 {s m : ByteArray} {i : Nat} (c : UInt8) (h : i < s.size) : thereB (s ++ m) i [c] = thereB s i [c] := by
  unfold thereB
  rw [app_drop s m i (by omega), drop_at s i h]
  simp [List.isPrefixOf]
theorem app_there {s m : ByteArray} {i : Nat} {t : List UInt8} (hi : i ≤ s.size) (h : thereB s i t = true) : thereB (s ++ m) i t = true := by
  unfold thereB at *
  rw [app_drop s m i hi]
  rw [List.isPrefixOf_iff_prefix] at *
  exact h.trans (List.prefix_append _ _)
/-- A slash alone is no attribute. -/
theorem attr_slash {s : ByteArray} {i : Nat} {acc : List Attr} (h : i < s.size) (hc : s[i] = 47) : ∃ e, attrP s i acc = .error e := by
  have hr : runP wordB s i = i := run_no h (by rw [hc]; rfl)
  have hn : nameP (s.extract i (runP wordB s i)) = false := by
    rw [hr]
    have : s.extract i i = noB := by
      apply bytes_one
      rw [Lib.extract_data]
      simp [noB]
    rw [this]
    decide
  unfold attrP
  simp only
  rw [if_pos hn]
  exact ⟨_, rfl⟩
theorem there_slash {s m : ByteArray} {k : Nat} {acc : List Attr} {a : Attr} {n : Nat} (hk : k < s.size) (ha : attrP s k acc = .ok (a, n)) : thereB (s ++ m) k [47, 62] = false := by
  cases h : thereB (s ++ m) k [47, 62]
  · rfl
  · have h1 := there_cons (s ++ m) k 47 [62] (by rw [app_size]; omega)
    rw [h] at h1
    have h2 : thereB (s ++ m) k [47] = true := by
      rw [there1 _ _ _ (by rw [app_size]; omega)]
      have := h1.symm
      rw [Bool.and_eq_true] at this
      exact this.1
    rw [app_there1 47 hk, there1 s k 47 hk] at h2
    obtain ⟨e, he⟩ := attr_slash (acc := acc) hk (by simpa using (beq_iff_eq.1 h2).symm)
    rw [he] at ha
    cases ha
theorem attr_app {s m : ByteArray} {i : Nat} {acc : List Attr} {a : Attr} {n : Nat} (h : attrP s i acc = .ok (a, n)) : attrP (s ++ m) i acc = .ok (a, n) := by
  obtain ⟨h1, h2, h3, h4, h5, h6, h7, h8, rfl, rfl⟩ := attr_ok h
  have l4 := there_lt h4
  have l5 := there_lt h5
  have r1 : runP wordB (s ++ m) i = runP wordB s i := run_app l4
  have r2 : runP (notB 34) (s ++ m) (runP wordB s i + 2) = runP (notB 34) s (runP wordB s i + 2) := run_app h6
  have e1 : (s ++ m).extract i (runP wordB s i) = s.extract i (runP wordB s i) := app_extract (by omega)
  have e2 : (s ++ m).extract (runP wordB s i + 2) (runP (notB 34) s (runP wordB s i + 2)) = s.extract (runP wordB s i + 2) (runP (notB 34) s (runP wordB s i + 2)) := app_extract (by omega)
  have := attr_mk (s := s ++ m) (i := i) (acc := acc) (by rw [r1, e1]; exact h1) h2 (by rw [r1, e1]; exact h3) (by rw [r1]; exact app_there (by omega) h4) (by rw [r1]; exact app_there (by omega) h5)
    (by rw [r1, r2, app_size]; omega) (by rw [r1, r2, e2]; exact h7) (by rw [r1, r2, e2]; exact h8)
  rw [this, r1, r2, e1, e2]
theorem attrs_app {s m : ByteArray} : ∀ (f i : Nat) (acc acc' : List Attr) (k : Nat), attrsF f s i acc = .ok (acc', k) → k < s.size → (thereB s k [62] = true ∨ thereB s k [47, 62] = true) → i ≤ s.size → attrsF f (s ++ m) i acc = .ok (acc', k)
  | 0, i, acc, acc', k, h, _, _, _ => by simpa [attrsF] using h
  | f + 1, i, acc, acc', k, h, hk, ht, hi => by
    rw [attrs_succ] at h
    rw [attrs_succ]
    split at h
    · rename_i hm
      obtain ⟨m1, m2, m3, m4⟩ := more_go hm
      have r1 : runP blankB (s ++ m) i = runP blankB s i := run_app m2
      cases ha : attrP s (runP blankB s i) acc with
      | error e => rw [ha] at h; cases h
      | ok p =>
        obtain ⟨a, n⟩ := p
        rw [ha] at h
        have hg := attr_go ha
        have hm2 : moreB (s ++ m) i (runP blankB s i) = true := by
          unfold moreB
          rw [app_there1 62 m2, m3, there_slash m2 ha, app_size]
          simp
          omega
        rw [r1, if_pos hm2, attr_app ha]
        exact attrs_app f n (acc ++ [a]) acc' k h hk ht hg.2.1
    · simp only [Except.ok.injEq, Prod.mk.injEq] at h
      obtain ⟨rfl, rfl⟩ := h
      have r1 : runP blankB (s ++ m) i = runP blankB s i := run_app hk
      have hm2 : moreB (s ++ m) i (runP blankB s i) = false := by
        unfold moreB
        rcases ht with h | h
        · rw [app_there (by omega) h]; simp
        · rw [app_there (by omega) h]; simp
      rw [r1, if_neg (by rw [hm2]; simp)]
/-- A tag is told alike, whatever stands behind it. -/
theorem one_app {s m : ByteArray} {i : Nat} {t : Tok} {n : Nat} (hi : i < s.size) (h : oneN s i = .ok (t, n)) (hk : t.kind ≠ 4) : oneN (s ++ m) i = .ok (t, n) := by
  unfold oneN at h
  cases h1 : thereB s i [60, 47] with
  | true =>
    rw [h1, if_pos rfl] at h
    obtain ⟨h2, h3, rfl, rfl⟩ := end_ok h
    have l3 := there_lt h3
    have g1 := run_ge blankB s (runP wordB s (i + 2))
    have r1 : runP wordB (s ++ m) (i + 2) = runP wordB s (i + 2) := run_app (by omega)
    have r2 : runP blankB (s ++ m) (runP wordB s (i + 2)) = runP blankB s (runP wordB s (i + 2)) := run_app l3
    have e1 : (s ++ m).extract (i + 2) (runP wordB s (i + 2)) = s.extract (i + 2) (runP wordB s (i + 2)) := app_extract (by omega)
    unfold oneN
    rw [app_there (by omega) h1, if_pos rfl]
    unfold endP
    simp only
    rw [r1, r2, e1, if_neg (by rw [h2]; simp), if_pos (app_there (by omega) h3)]
  | false =>
    rw [h1, if_neg (by simp)] at h
    cases h2 : thereB s i [60] with
    | false =>
      rw [h2, if_neg (by simp)] at h
      obtain ⟨_, _, rfl, _⟩ := text_ok h
      exact absurd rfl hk
    | true =>
      rw [h2, if_pos rfl] at h
      obtain ⟨h3, acc, k, h4, h5⟩ := beg_ok h
      have a2 := run_le (p := wordB) (s := s) (i := i + 1) (by omega)
      have hks : k < s.size := by rcases h5 with ⟨q, _⟩ | ⟨_, q, _⟩ <;> exact there_lt q
      have g1 := attrs_ok s _ _ _ _ _ h4 a2 trivial (by simp) (by simp)
      have r1 : runP wordB (s ++ m) (i + 1) = runP wordB s (i + 1) := run_app (by omega)
      have e1 : (s ++ m).extract (i + 1) (runP wordB s (i + 1)) = s.extract (i + 1) (runP wordB s (i + 1)) := app_extract a2
      have hn : thereB (s ++ m) i [60, 47] = false := by
        have g2 := g1.2.2.2.1
        have g3 := run_ge wordB s (i + 1)
        cases hb : thereB (s ++ m) i [60, 47]
        · rfl
        · exfalso
          rw [there_cons _ _ _ _ (by rw [app_size]; omega), Bool.and_eq_true] at hb
          have i1 : i + 1 < s.size := by omega
          have hb2 := hb.2
          rw [app_there1 47 i1] at hb2
          have hc : thereB s i [60, 47] = true := by
            rw [there_cons s i 60 [47] hi, hb2]
            rw [there1 s i 60 hi] at h2
            rw [h2]
            rfl
          rw [h1] at hc
          cases hc
      have hat : attrsF ((s ++ m).size + 1) (s ++ m) (runP wordB s (i + 1)) [] = .ok (acc, k) := by
        rw [attrs_enough (s ++ m) ((s ++ m).size + 1) ((s ++ m).size + (s.size + 1) + 1) _ [] (by omega) (by omega)]
        have h4' : attrsF ((s ++ m).size + (s.size + 1) + 1) s (runP wordB s (i + 1)) [] = .ok (acc, k) := by
          rw [← h4]
          exact attrs_enough s _ _ _ _ (by omega) (by omega)
        exact attrs_app _ _ _ _ _ h4' hks (by rcases h5 with ⟨q, _⟩ | ⟨_, q, _⟩; exact Or.inl q; exact Or.inr q) a2
      unfold oneN
      rw [hn, if_neg (by simp), app_there (by omega) h2, if_pos rfl]
      unfold begP
      simp only
      rw [r1, e1, if_neg (by rw [h3]; simp), hat]
      simp only
      rcases h5 with ⟨q, rfl, rfl⟩ | ⟨q0, q, rfl, rfl⟩
      · rw [if_pos (app_there (by omega) q)]
      · rw [if_neg (by rw [app_there1 62 hks, q0]; simp), if_pos (app_there (by omega) q)]
end L
end Go.Proofs.YtmgemdhpjibdiaaDoor
