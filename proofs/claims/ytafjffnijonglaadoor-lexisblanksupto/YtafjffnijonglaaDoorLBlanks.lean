/- Plain mathematics for layer lexis, more: a tag is told alike, however many blanks stand ahead of its end. -/
import Derived.Test.YtafjffnijonglaaDoorLFacts4
namespace Go.Proofs.YtafjffnijonglaaDoor
namespace L
open G E
theorem run_res {p : UInt8 → Bool} {x m : ByteArray} {i : Nat} (hi : i ≤ x.size) (h : runP p (x ++ m) i < x.size) : runP p x i = runP p (x ++ m) i := by
  unfold runP at *
  rw [app_drop x m i hi, List.takeWhile_append] at *
  split
  · rename_i q
    rw [if_pos q] at h
    simp at h
    omega
  · rfl
/-- Where a run goes to the end of what stands ahead, it goes through all of it. -/
theorem run_full {p : UInt8 → Bool} {x m : ByteArray} {i : Nat} (hi : i ≤ x.size) (h : x.size ≤ runP p (x ++ m) i) : (x.data.toList.drop i).takeWhile p = x.data.toList.drop i := by
  unfold runP at h
  rw [app_drop x m i hi, List.takeWhile_append] at h
  split at h
  · rename_i q
    exact (List.takeWhile_prefix p).eq_of_length q
  · exfalso
    rename_i q
    have h1 := (List.takeWhile_prefix p (l := x.data.toList.drop i)).length_le
    simp only [List.length_drop, Array.length_toList, ByteArray.size_data] at h1 q
    omega
theorem run_past {p : UInt8 → Bool} {x m : ByteArray} {i : Nat} (hi : i ≤ x.size) (h : (x.data.toList.drop i).takeWhile p = x.data.toList.drop i) : runP p (x ++ m) i = x.size + (m.data.toList.takeWhile p).length := by
  unfold runP
  rw [app_drop x m i hi, List.takeWhile_append, h, if_pos rfl]
  simp
  omega
theorem blanks_run {b t : ByteArray} (hb : ∀ c ∈ b.data.toList, blankB c = true) (ht : t.data.toList = [62] ∨ t.data.toList = [47, 62]) : ((b ++ t).data.toList.takeWhile blankB).length = b.size := by
  rw [app_list, List.takeWhile_append_of_pos (by simpa using hb)]
  rcases ht with h | h <;> rw [h] <;> simp [List.takeWhile, blankB]
theorem word_stop {b t : ByteArray} (hb : ∀ c ∈ b.data.toList, blankB c = true) (ht : t.data.toList = [62] ∨ t.data.toList = [47, 62]) : (b ++ t).data.toList.takeWhile wordB = [] := by
  rw [app_list]
  cases hl : b.data.toList with
  | nil => rcases ht with h | h <;> rw [h] <;> simp [wordB, blankB]
  | cons c l =>
    have h1 := hb c (by rw [hl]; simp)
    simp [wordB, h1]
theorem no_b {t : ByteArray} : (noB ++ t) = t := by
  apply bytes_one
  rw [app_list]
  rfl
section
variable {x b t : ByteArray}
theorem t_word (ht : t.data.toList = [62] ∨ t.data.toList = [47, 62]) : t.data.toList.takeWhile wordB = [] := by
  have := word_stop (b := noB) (t := t) (by simp [noB]) ht
  rwa [no_b] at this
theorem t_blank (ht : t.data.toList = [62] ∨ t.data.toList = [47, 62]) : (t.data.toList.takeWhile blankB).length = 0 := by
  have := blanks_run (b := noB) (t := t) (by simp [noB]) ht
  rwa [no_b] at this
theorem run_words (hb : ∀ c ∈ b.data.toList, blankB c = true) (ht : t.data.toList = [62] ∨ t.data.toList = [47, 62]) {i : Nat} (hi : i ≤ x.size) : runP wordB (x ++ (b ++ t)) i = runP wordB (x ++ t) i := by
  by_cases h : runP wordB (x ++ t) i < x.size
  · have e := run_res hi h
    rw [← e]
    exact run_app (by omega)
  · have hf := run_full (p := wordB) (m := t) hi (by omega)
    rw [run_past hi hf, run_past hi hf, word_stop hb ht, t_word ht]
theorem run_blanks (hb : ∀ c ∈ b.data.toList, blankB c = true) (ht : t.data.toList = [62] ∨ t.data.toList = [47, 62]) {i : Nat} (hi : i ≤ x.size) (h : runP blankB (x ++ t) i = x.size) : runP blankB (x ++ (b ++ t)) i = x.size + b.size := by
  have hf := run_full (p := blankB) (m := t) hi (by omega)
  rw [run_past hi hf, blanks_run hb ht]
theorem there_t : thereB (x ++ (b ++ t)) (x.size + b.size) t.data.toList = true := by
  have e : (x ++ (b ++ t)).data.toList.drop (x.size + b.size) = t.data.toList := by
    rw [app_list, app_list, ← List.append_assoc, List.drop_append_of_le_length (by simp), List.drop_eq_nil_of_le (by simp)]
    rfl
  unfold thereB
  rw [e, List.isPrefixOf_iff_prefix]
  exact List.prefix_refl _
theorem attr_res {i : Nat} {acc : List Attr} {a : Attr} {n : Nat} (hi : i ≤ x.size) (h : attrP (x ++ t) i acc = .ok (a, n)) (hn : n ≤ x.size) : attrP x i acc = .ok (a, n) := by
  obtain ⟨h1, h2, h3, h4, h5, h6, h7, h8, rfl, rfl⟩ := attr_ok h
  have g1 := run_ge wordB (x ++ t) i
  have g2 := run_ge (notB 34) (x ++ t) (runP wordB (x ++ t) i + 2)
  have r1 : runP wordB x i = runP wordB (x ++ t) i := run_res hi (by omega)
  have r2 : runP (notB 34) x (runP wordB (x ++ t) i + 2) = runP (notB 34) (x ++ t) (runP wordB (x ++ t) i + 2) := run_res (by omega) (by omega)
  have e1 : (x ++ t).extract i (runP wordB (x ++ t) i) = x.extract i (runP wordB (x ++ t) i) := app_extract (by omega)
  have e2 : (x ++ t).extract (runP wordB (x ++ t) i + 2) (runP (notB 34) (x ++ t) (runP wordB (x ++ t) i + 2)) = x.extract (runP wordB (x ++ t) i + 2) (runP (notB 34) (x ++ t) (runP wordB (x ++ t) i + 2)) := app_extract (by omega)
  have := attr_mk (s := x) (i := i) (acc := acc) (by rw [r1, ← e1]; exact h1) h2 (by rw [r1, ← e1]; exact h3) (by rw [r1, ← app_there1 (m := t) 61 (by omega)]; exact h4) (by rw [r1, ← app_there1 (m := t) 34 (by omega)]; exact h5)
    (by rw [r1, r2]; omega) (by rw [r1, r2, ← e2]; exact h7) (by rw [r1, r2, ← e2]; exact h8)
  rw [this, r1, r2, e1, e2]
theorem word_le (ht : t.data.toList = [62] ∨ t.data.toList = [47, 62]) {i : Nat} (hi : i ≤ x.size) : runP wordB (x ++ t) i ≤ x.size := by
  by_cases h : runP wordB (x ++ t) i < x.size
  · omega
  · have hf := run_full (p := wordB) (m := t) hi (by omega)
    rw [run_past hi hf, t_word ht]
    simp
theorem blank_le (ht : t.data.toList = [62] ∨ t.data.toList = [47, 62]) {i : Nat} (hi : i ≤ x.size) : runP blankB (x ++ t) i ≤ x.size := by
  by_cases h : runP blankB (x ++ t) i < x.size
  · omega
  · have hf := run_full (p := blankB) (m := t) hi (by omega)
    rw [run_past hi hf, t_blank ht]
    omega
theorem tail_at {k : Nat} (h1 : x.size ≤ k) (h2 : k < (x ++ t).size) : (x ++ t)[k]'h2 ∈ t.data.toList := by
  have e := drop_at (x ++ t) k h2
  rw [app_list, List.drop_append, List.drop_eq_nil_of_le (by simpa using h1), List.nil_append] at e
  have : (x ++ t)[k]'h2 ∈ t.data.toList.drop (k - x.data.toList.length) := by rw [e]; simp
  exact List.mem_of_mem_drop this
theorem attr_le (ht : t.data.toList = [62] ∨ t.data.toList = [47, 62]) {i : Nat} {acc : List Attr} {a : Attr} {n : Nat} (h : attrP (x ++ t) i acc = .ok (a, n)) : n ≤ x.size := by
  obtain ⟨_, _, _, _, _, h6, _, _, _, rfl⟩ := attr_ok h
  by_cases hk : runP (notB 34) (x ++ t) (runP wordB (x ++ t) i + 2) < x.size
  · omega
  · exfalso
    have hs := run_stop h6
    have hm := tail_at (x := x) (t := t) (by omega) h6
    rcases ht with q | q
    · rw [q] at hm
      simp only [List.mem_singleton] at hm
      rw [hm] at hs
      revert hs
      decide
    · rw [q] at hm
      simp only [List.mem_cons, List.not_mem_nil, or_false] at hm
      rcases hm with hm | hm <;> (rw [hm] at hs; revert hs; decide)
theorem attrs_le (ht : t.data.toList = [62] ∨ t.data.toList = [47, 62]) : ∀ (f i : Nat) (acc acc' : List Attr) (k : Nat), attrsF f (x ++ t) i acc = .ok (acc', k) → i ≤ x.size → k ≤ x.size
  | 0, i, acc, acc', k, h, hi => by
    simp only [attrsF, Except.ok.injEq, Prod.mk.injEq] at h
    omega
  | f + 1, i, acc, acc', k, h, hi => by
    rw [attrs_succ] at h
    split at h
    · cases ha : attrP (x ++ t) (runP blankB (x ++ t) i) acc with
      | error e => rw [ha] at h; cases h
      | ok p =>
        obtain ⟨a, n⟩ := p
        rw [ha] at h
        exact attrs_le ht f n _ _ k h (attr_le ht ha)
    · simp only [Except.ok.injEq, Prod.mk.injEq] at h
      rw [← h.2]
      exact blank_le ht hi
theorem attrs_blanks (hb : ∀ c ∈ b.data.toList, blankB c = true) (ht : t.data.toList = [62] ∨ t.data.toList = [47, 62]) : ∀ (f i : Nat) (acc acc' : List Attr), attrsF f (x ++ t) i acc = .ok (acc', x.size) → (x ++ t).size - i < f → i ≤ x.size → attrsF f (x ++ (b ++ t)) i acc = .ok (acc', x.size + b.size)
  | 0, _, _, _, _, h, _ => by omega
  | f + 1, i, acc, acc', h, hf, hi => by
    rw [attrs_succ] at h
    rw [attrs_succ]
    split at h
    · rename_i hm
      obtain ⟨m1, m2, m3, m4⟩ := more_go hm
      cases ha : attrP (x ++ t) (runP blankB (x ++ t) i) acc with
      | error e => rw [ha] at h; cases h
      | ok p =>
        obtain ⟨a, n⟩ := p
        rw [ha] at h
        have hg := attr_go ha
        have hn := attr_le ht ha
        have r0 : runP blankB x i = runP blankB (x ++ t) i := run_res hi (by omega)
        have r1 : runP blankB (x ++ (b ++ t)) i = runP blankB (x ++ t) i := by rw [← r0]; exact run_app (by omega)
        have hx := attr_res (by omega) ha hn
        have hm2 : moreB (x ++ (b ++ t)) i (runP blankB (x ++ t) i) = true := by
          have g1 : thereB (x ++ (b ++ t)) (runP blankB (x ++ t) i) [62] = false := by
            rw [app_there1 62 (by omega), ← app_there1 (m := t) 62 (by omega)]; exact m3
          have g2 := there_slash (m := b ++ t) (by omega) hx
          unfold moreB
          rw [g1, g2, app_size]
          simp
          omega
        rw [r1, if_pos hm2, attr_app hx]
        exact attrs_blanks hb ht f n _ _ h (by omega) hn
    · simp only [Except.ok.injEq, Prod.mk.injEq] at h
      obtain ⟨rfl, h⟩ := h
      rw [run_blanks hb ht hi h]
      have hm2 : moreB (x ++ (b ++ t)) i (x.size + b.size) = false := by
        unfold moreB
        have := there_t (x := x) (b := b) (t := t)
        rcases ht with h | h <;> rw [h] at this <;> rw [this] <;> simp
      rw [if_neg (by rw [hm2]; simp)]
theorem app_there2 {s m : ByteArray} {i : Nat} (c d : UInt8) (h : i + 1 < s.size) : thereB (s ++ m) i [c, d] = thereB s i [c, d] := by
  rw [there_cons (s ++ m) i c [d] (by rw [app_size]; omega), there_cons s i c [d] (by omega), app_there1 d h, ← there1 (s ++ m) i c (by rw [app_size]; omega), ← there1 s i c (by omega), app_there1 c (by omega)]
/-- A tag that ends where its text ends is told alike, however many blanks stand ahead of its end. -/
theorem tag_blanks (hb : ∀ c ∈ b.data.toList, blankB c = true) (ht : t.data.toList = [62] ∨ t.data.toList = [47, 62]) {k : Tok} (h2 : 2 ≤ x.size) (h60 : thereB x 0 [60] = true) (hl : thereB x (x.size - 1) [47] = false) (h : oneN (x ++ t) 0 = .ok (k, (x ++ t).size)) : oneN (x ++ (b ++ t)) 0 = .ok (k, (x ++ (b ++ t)).size) := by
  have tz : t.size = t.data.toList.length := by simp
  have ss : (x ++ (b ++ t)).size = x.size + b.size + t.size := by rw [app_size, app_size]; omega
  have ss1 : (x ++ t).size = x.size + t.size := app_size _ _
  have tt := there_t (x := x) (b := b) (t := t)
  unfold oneN at h
  unfold oneN
  rw [app_there2 60 47 (by omega), app_there1 60 (by omega)] at h
  rw [app_there2 60 47 (by omega), app_there1 60 (by omega)]
  split at h
  · rename_i hc
    rw [if_pos hc]
    obtain ⟨h3, h4, rfl, h5⟩ := end_ok h
    simp only [Nat.zero_add] at h3 h4 h5 ⊢
    have w1 := word_le (x := x) ht h2
    have b1 := blank_le (x := x) ht w1
    rcases ht with q | q
    · rw [q] at tz tt
      simp only [List.length_cons, List.length_nil] at tz
      have e1 : runP blankB (x ++ t) (runP wordB (x ++ t) 2) = x.size := by omega
      have r1 := run_words (x := x) hb (Or.inl q) h2
      have r2 := run_blanks hb (Or.inl q) w1 e1
      have x1 : (x ++ t).extract 2 (runP wordB (x ++ t) 2) = x.extract 2 (runP wordB (x ++ t) 2) := app_extract w1
      have x2 : (x ++ (b ++ t)).extract 2 (runP wordB (x ++ t) 2) = x.extract 2 (runP wordB (x ++ t) 2) := app_extract w1
      unfold endP
      simp only [Nat.zero_add]
      rw [r1, r2, x2, ← x1, if_neg (by rw [h3]; simp), if_pos tt, ss, tz]
    · rw [q] at tz
      simp only [List.length_cons, List.length_nil] at tz
      omega
  · rename_i hc
    rw [if_neg hc, if_pos h60]
    obtain ⟨h3, acc, kk, h4, h5⟩ := beg_ok h
    simp only [Nat.zero_add] at h3 h4 h5 ⊢
    have w1 := word_le (x := x) (i := 1) ht (by omega)
    have r1 := run_words (x := x) (i := 1) hb ht (by omega)
    have kx := attrs_le ht _ _ _ _ _ h4 w1
    have x1 : (x ++ t).extract 1 (runP wordB (x ++ t) 1) = x.extract 1 (runP wordB (x ++ t) 1) := app_extract w1
    have x2 : (x ++ (b ++ t)).extract 1 (runP wordB (x ++ t) 1) = x.extract 1 (runP wordB (x ++ t) 1) := app_extract w1
    have hk : kk = x.size := by
      rcases ht with q | q
      · rw [q] at tz
        simp only [List.length_cons, List.length_nil] at tz
        rcases h5 with ⟨_, _, h7⟩ | ⟨_, h6, _, h7⟩
        · omega
        · exfalso
          have e : kk = x.size - 1 := by omega
          rw [e, there_cons _ _ _ _ (by omega), Bool.and_eq_true, ← there1 (x ++ t) (x.size - 1) 47 (by omega), app_there1 47 (by omega), hl] at h6
          simp at h6
      · rw [q] at tz
        simp only [List.length_cons, List.length_nil] at tz
        rcases h5 with ⟨_, _, h7⟩ | ⟨_, h6, _, h7⟩ <;> omega
    subst hk
    have hat : attrsF ((x ++ (b ++ t)).size + 1) (x ++ (b ++ t)) (runP wordB (x ++ t) 1) [] = .ok (acc, x.size + b.size) := by
      rw [attrs_enough (x ++ (b ++ t)) ((x ++ (b ++ t)).size + 1) ((x ++ (b ++ t)).size + ((x ++ t).size + 1) + 1) _ [] (by omega) (by omega)]
      refine attrs_blanks hb ht _ _ _ _ ?_ (by omega) w1
      rw [← h4]
      exact attrs_enough _ _ _ _ _ (by omega) (by omega)
    unfold begP
    simp only [Nat.zero_add]
    rw [r1, x2, ← x1, if_neg (by rw [h3]; simp), hat]
    simp only
    rcases h5 with ⟨h6, rfl, h7⟩ | ⟨h60', h6, rfl, h7⟩
    · have q : t.data.toList = [62] := by
        rcases ht with q | q
        · exact q
        · rw [q] at tz
          simp only [List.length_cons, List.length_nil] at tz
          omega
      rw [q] at tz tt
      simp only [List.length_cons, List.length_nil] at tz
      rw [if_pos tt, ss, tz]
    · have q : t.data.toList = [47, 62] := by
        rcases ht with q | q
        · rw [q] at tz
          simp only [List.length_cons, List.length_nil] at tz
          omega
        · exact q
      rw [q] at tz tt
      simp only [List.length_cons, List.length_nil] at tz
      have n62 : thereB (x ++ (b ++ t)) (x.size + b.size) [62] = false := by
        have hlt := there_lt tt
        rw [there_cons _ _ _ _ hlt, Bool.and_eq_true] at tt
        rw [there1 _ _ _ hlt, ← beq_iff_eq.1 tt.1]
        rfl
      rw [if_neg (by rw [n62]; simp), if_pos tt, ss, tz]
end
end L
end Go.Proofs.YtafjffnijonglaaDoor
