/- Plain: a token is told alike behind another text, and ahead of an end; a document in an element is a document, one level deeper, if it is not too deep, nor too much. -/
import Derived.Test.YtmgemdhpjibdiaaDoorPPlain
import Derived.Test.YtmgemdhpjibdiaaDoorLFacts4
namespace Go.Proofs.YtmgemdhpjibdiaaDoor
namespace L
open G E
section
variable {x s : ByteArray}
theorem pre_drop (i : Nat) : (x ++ s).data.toList.drop (x.size + i) = s.data.toList.drop i := by
  rw [app_list, show x.size + i = x.data.toList.length + i by simp, List.drop_length_add_append]
theorem pre_run (p : UInt8 → Bool) (i : Nat) : runP p (x ++ s) (x.size + i) = x.size + runP p s i := by
  unfold runP
  rw [pre_drop]
  omega
theorem pre_there (i : Nat) (t : List UInt8) : thereB (x ++ s) (x.size + i) t = thereB s i t := by
  unfold thereB
  rw [pre_drop]
theorem pre_extract (i j : Nat) : (x ++ s).extract (x.size + i) (x.size + j) = s.extract i j := by
  apply bytes_one
  rw [Lib.extract_data, Lib.extract_data, pre_drop, show x.size + j - (x.size + i) = j - i by omega]
theorem attr_pre {i : Nat} {acc : List Attr} {a : Attr} {n : Nat} (h : attrP s i acc = .ok (a, n)) : attrP (x ++ s) (x.size + i) acc = .ok (a, x.size + n) := by
  obtain ⟨h1, h2, h3, h4, h5, h6, h7, h8, rfl, rfl⟩ := attr_ok h
  have r1 : runP wordB (x ++ s) (x.size + i) = x.size + runP wordB s i := pre_run _ _
  have r2 : runP (notB 34) (x ++ s) (x.size + runP wordB s i + 2) = x.size + runP (notB 34) s (runP wordB s i + 2) := by rw [Nat.add_assoc]; exact pre_run _ _
  have e1 : (x ++ s).extract (x.size + i) (x.size + runP wordB s i) = s.extract i (runP wordB s i) := pre_extract _ _
  have e2 : (x ++ s).extract (x.size + runP wordB s i + 2) (x.size + runP (notB 34) s (runP wordB s i + 2)) = s.extract (runP wordB s i + 2) (runP (notB 34) s (runP wordB s i + 2)) := by rw [Nat.add_assoc]; exact pre_extract _ _
  have := attr_mk (s := x ++ s) (i := x.size + i) (acc := acc) (by rw [r1, e1]; exact h1) h2 (by rw [r1, e1]; exact h3) (by rw [r1, pre_there]; exact h4) (by rw [r1, Nat.add_assoc, pre_there]; exact h5)
    (by rw [r1, r2, app_size]; omega) (by rw [r1, r2, e2]; exact h7) (by rw [r1, r2, e2]; exact h8)
  rw [this, r1, r2, e1, e2, Nat.add_assoc]
theorem more_pre (i k : Nat) : moreB (x ++ s) (x.size + i) (x.size + k) = moreB s i k := by
  unfold moreB
  rw [pre_there, pre_there, app_size]
  simp
theorem attrs_pre : ∀ (f i : Nat) (acc acc' : List Attr) (k : Nat), attrsF f s i acc = .ok (acc', k) → attrsF f (x ++ s) (x.size + i) acc = .ok (acc', x.size + k)
  | 0, i, acc, acc', k, h => by
    simp only [attrsF, Except.ok.injEq, Prod.mk.injEq] at h ⊢
    exact ⟨h.1, by rw [h.2]⟩
  | f + 1, i, acc, acc', k, h => by
    rw [attrs_succ] at h
    rw [attrs_succ, pre_run, more_pre]
    split at h
    · rename_i hm
      rw [if_pos hm]
      cases ha : attrP s (runP blankB s i) acc with
      | error e => rw [ha] at h; cases h
      | ok p =>
        obtain ⟨a, n⟩ := p
        rw [ha] at h
        rw [attr_pre ha]
        exact attrs_pre f n (acc ++ [a]) acc' k h
    · rename_i hm
      rw [if_neg hm]
      simp only [Except.ok.injEq, Prod.mk.injEq] at h ⊢
      exact ⟨h.1, by rw [h.2]⟩
theorem one_pre {i : Nat} {t : Tok} {n : Nat} (hi : i < s.size) (h : oneN s i = .ok (t, n)) : oneN (x ++ s) (x.size + i) = .ok ({ t with pos := x.size + t.pos }, x.size + n) := by
  unfold oneN at h ⊢
  rw [pre_there, pre_there]
  split at h
  · rename_i h0
    rw [if_pos h0]
    obtain ⟨h1, h2, rfl, rfl⟩ := end_ok h
    unfold endP
    simp only
    rw [Nat.add_assoc, pre_run, pre_run, pre_extract, pre_there, if_neg (by rw [h1]; simp), if_pos h2, Nat.add_assoc]
  · rename_i h0
    rw [if_neg h0]
    split at h
    · rename_i h1
      rw [if_pos h1]
      obtain ⟨h2, acc, k, h3, h4⟩ := beg_ok h
      have a2 := run_le (p := wordB) (s := s) (i := i + 1) (by omega)
      have h5 := attrs_pre (x := x) _ _ _ _ _ h3
      rw [attrs_enough (x ++ s) (s.size + 1) ((x ++ s).size + 1) _ _ (by rw [app_size]; omega) (by omega)] at h5
      unfold begP
      simp only
      rw [Nat.add_assoc, pre_run, pre_extract, if_neg (by rw [h2]; simp), h5]
      simp only
      rw [pre_there, pre_there]
      rcases h4 with ⟨q1, rfl, rfl⟩ | ⟨q1, q2, rfl, rfl⟩
      · rw [if_pos q1, Nat.add_assoc]
      · rw [if_neg (by rw [q1]; simp), if_pos q2, Nat.add_assoc]
    · rename_i h1
      rw [if_neg h1]
      obtain ⟨h2, h3, rfl, rfl⟩ := text_ok h
      unfold textP
      simp only
      rw [pre_run, pre_extract, if_neg (by rw [h2]; simp), if_neg (by omega)]
theorem run_last {p : UInt8 → Bool} {m : ByteArray} {i : Nat} (hi : i ≤ s.size) (h : runP p s i = s.size) (hm : m.data.toList.takeWhile p = []) : runP p (s ++ m) i = s.size := by
  unfold runP at *
  rw [app_drop s m i hi, List.takeWhile_append, hm]
  split
  · simp; omega
  · exact h
/-- A token is told alike ahead of an end. -/
theorem one_suf {m : ByteArray} (hm : m.data.toList.takeWhile (notB 60) = []) {i : Nat} {t : Tok} {n : Nat} (hi : i < s.size) (h : oneN s i = .ok (t, n)) : oneN (s ++ m) i = .ok (t, n) := by
  by_cases hk : t.kind = 4
  · have h' := h
    unfold oneN at h
    split at h
    · obtain ⟨_, _, rfl, _⟩ := end_ok h
      simp at hk
    · split at h
      · obtain ⟨_, _, _, _, ⟨_, rfl, _⟩ | ⟨_, _, rfl, _⟩⟩ := beg_ok h <;> simp at hk
      · rename_i h0 h1
        obtain ⟨h2, h3, rfl, rfl⟩ := text_ok h
        have r1 : runP (notB 60) (s ++ m) i = runP (notB 60) s i := by
          have hle := run_le (p := notB 60) (s := s) (i := i) (by omega)
          rcases Nat.lt_or_ge (runP (notB 60) s i) s.size with q | q
          · exact run_app q
          · have e : runP (notB 60) s i = s.size := by omega
            rw [run_last (by omega) e hm, e]
        have e1 : (s ++ m).extract i (runP (notB 60) s i) = s.extract i (runP (notB 60) s i) := app_extract (run_le (by omega))
        have t1 : thereB (s ++ m) i [60] = false := by rw [app_there1 60 hi]; simpa using h1
        have t2 : thereB (s ++ m) i [60, 47] = false := by
          cases hb : thereB (s ++ m) i [60, 47]
          · rfl
          · rw [there_cons _ _ _ _ (by rw [app_size]; omega), Bool.and_eq_true] at hb
            rw [there1 _ _ _ (by rw [app_size]; omega)] at t1
            rw [t1] at hb
            cases hb.1
        unfold oneN
        rw [t2, if_neg (by simp), t1, if_neg (by simp)]
        unfold textP
        simp only
        rw [r1, e1, if_neg (by rw [h2]; simp), if_neg (by omega)]
  · exact one_app hi h hk
end
end L
namespace P
open L G
def wx : ByteArray := ⟨#[60, 119, 62]⟩
def wm : ByteArray := ⟨#[60, 47, 119, 62]⟩
def wn : ByteArray := ⟨#[119]⟩
def wi : Itm := ⟨0, 1, wn, noB, []⟩
def up (a : Itm) : Itm := { a with level := a.level + 1 }
theorem wrap_end : oneN wm 0 = .ok (⟨2, 0, wn, noB, []⟩, 4) := by kernel_rfl
theorem wrap_beg : oneN wx 0 = .ok (⟨1, 0, wn, noB, []⟩, 3) := by kernel_rfl
/-- Is a document too deep, or too much, for one more around it? -/
def Big (l : List Itm) : Prop := (∃ a ∈ l, 40 ≤ a.level + 1) ∨ 1000 < l.length + 1
theorem parse_prefix (s : ByteArray) : ∀ (f i : Nat) (its l : List Itm) (op : List ByteArray), s.size - i < f → i ≤ s.size → parseF f s i its op = .ok l → ∃ r, l = its ++ r
  | 0, _, _, _, _, h, _, _ => by omega
  | f + 1, i, its, l, op, hf, hi, h => by
    by_cases hlt : i < s.size
    · cases ho : oneN s i with
      | error e => rw [parse_bad (by omega) hlt ho] at h; cases h
      | ok r =>
        obtain ⟨t, n⟩ := r
        cases ht : takeP its op t with
        | error e => rw [parse_no (by omega) hlt ho ht] at h; cases h
        | ok r =>
          obtain ⟨its', op'⟩ := r
          rw [parse_next (by omega) hlt ho ht] at h
          have hn := one_go hlt ho
          obtain ⟨r, rfl⟩ := parse_prefix s f n its' l op' (by omega) hn.2 h
          have : ∃ q, its' = its ++ q := by
            unfold takeP at ht
            split at ht
            · split at ht
              · simp only [Except.ok.injEq, Prod.mk.injEq] at ht
                exact ⟨[], by rw [ht.1]; simp⟩
              · cases ht
            · split at ht
              · cases ht
              · simp only [Except.ok.injEq, Prod.mk.injEq] at ht
                exact ⟨_, ht.1.symm⟩
          obtain ⟨q, rfl⟩ := this
          exact ⟨q ++ r, by simp⟩
    · rw [parse_end (by omega) (by omega)] at h
      split at h
      · cases h
      · split at h
        · cases h
        · simp only [Except.ok.injEq] at h
          exact ⟨[], by rw [h]; simp⟩
theorem item_up (n : Nat) (t : Tok) (q : Nat) : itemOf (n + 1) { t with pos := q } = up (itemOf n t) := by
  unfold itemOf up
  dsimp only
  split <;> simp
theorem item_level (n : Nat) (t : Tok) : (itemOf n t).level = (n : Int) := by unfold itemOf; split <;> rfl
theorem take_up {its its' : List Itm} {op op' : List ByteArray} {t : Tok} (q : Nat) (h : takeP its op t = .ok (its', op')) (hs : ¬ Big its) :
    (∃ e, takeP (wi :: its.map up) (wn :: op) { t with pos := q } = .error e ∧ (e = 42 ∨ e = 43) ∧ Big its') ∨ (takeP (wi :: its.map up) (wn :: op) { t with pos := q } = .ok (wi :: its'.map up, wn :: op') ∧ ¬ Big its') := by
  unfold takeP at h ⊢
  dsimp only
  split at h
  · rename_i hk
    rw [if_pos hk]
    split at h
    · rename_i hc
      simp only [Except.ok.injEq, Prod.mk.injEq] at h
      obtain ⟨rfl, rfl⟩ := h
      have hne : op ≠ [] := by rintro rfl; simp [closesB] at hc
      obtain ⟨b, l, rfl⟩ : ∃ b l, op = b :: l := by cases op with | nil => exact absurd rfl hne | cons b l => exact ⟨b, l, rfl⟩
      have hc2 : closesB (wn :: b :: l) t.name = true := by simpa [closesB, List.getLast?_cons_cons] using hc
      rw [if_pos hc2]
      exact Or.inr ⟨by simp [List.dropLast], hs⟩
    · cases h
  · rename_i hk
    rw [if_neg hk]
    split at h
    · cases h
    · simp only [Except.ok.injEq, Prod.mk.injEq] at h
      obtain ⟨rfl, rfl⟩ := h
      simp only [List.length_cons, List.length_map, item_up]
      have lv := item_level op.length t
      have lu : (up (itemOf op.length t)).level = (op.length : Int) + 1 := by simp [up, lv]
      by_cases h1 : 40 ≤ op.length + 1
      · left
        have he : addE (its.length + 1) (up (itemOf op.length t)) = 42 := by
          unfold addE
          rw [lu, if_neg (by omega), if_pos (by omega)]
        rw [he]
        exact ⟨42, by simp, Or.inl rfl, Or.inl ⟨itemOf op.length t, by simp, by rw [lv]; omega⟩⟩
      · by_cases h2 : 1000 ≤ its.length + 1
        · left
          have he : addE (its.length + 1) (up (itemOf op.length t)) = 43 := by
            unfold addE
            rw [lu, if_neg (by omega), if_neg (by omega), if_pos (by omega)]
          rw [he]
          exact ⟨43, by simp, Or.inr rfl, Or.inr (by simp; omega)⟩
        · right
          have he : addE (its.length + 1) (up (itemOf op.length t)) = 0 := by
            unfold addE
            rw [lu, if_neg (by omega), if_neg (by omega), if_neg (by omega)]
          rw [he]
          refine ⟨?_, ?_⟩
          · simp only [ne_eq, not_true_eq_false, if_false, List.map_append, List.map_cons, List.map_nil, List.cons_append, Except.ok.injEq, Prod.mk.injEq, true_and]
            split <;> simp
          · rintro (⟨a, ha, hl⟩ | hl)
            · rcases List.mem_append.1 ha with ha | ha
              · exact hs (Or.inl ⟨a, ha, hl⟩)
              · simp only [List.mem_singleton] at ha
                subst ha
                rw [lv] at hl
                omega
            · simp only [List.length_append, List.length_cons, List.length_nil] at hl
              omega
theorem big_more {l : List Itm} (r : List Itm) (h : Big l) : Big (l ++ r) := by
  rcases h with ⟨a, ha, hl⟩ | h
  · exact Or.inl ⟨a, List.mem_append_left _ ha, hl⟩
  · exact Or.inr (by simp; omega)
theorem wrap_go (s : ByteArray) : ∀ (f F i : Nat) (its l : List Itm) (op : List ByteArray), s.size - i < f → i ≤ s.size → s.size + 5 - i < F → ¬ Big its → parseF f s i its op = .ok l →
    (∃ z e, parseF F (wx ++ (s ++ wm)) (wx.size + i) (wi :: its.map up) (wn :: op) = .error (z, e) ∧ (e = 42 ∨ e = 43) ∧ Big l) ∨ (parseF F (wx ++ (s ++ wm)) (wx.size + i) (wi :: its.map up) (wn :: op) = .ok (wi :: l.map up) ∧ ¬ Big l)
  | 0, _, _, _, _, _, h, _, _, _, _ => by omega
  | f + 1, F, i, its, l, op, hf, hi, hF, hB, h => by
    have hS : (wx ++ (s ++ wm)).size = wx.size + (s.size + 4) := by rw [app_size, app_size]; rfl
    by_cases hlt : i < s.size
    · cases ho : oneN s i with
      | error e => rw [parse_bad (by omega) hlt ho] at h; cases h
      | ok r =>
        obtain ⟨t, n⟩ := r
        cases ht : takeP its op t with
        | error e => rw [parse_no (by omega) hlt ho ht] at h; cases h
        | ok r =>
          obtain ⟨its', op'⟩ := r
          rw [parse_next (by omega) hlt ho ht] at h
          have hn := one_go hlt ho
          have ho2 := one_pre (x := wx) (by rw [app_size]; omega) (one_suf (m := wm) (by decide) hlt ho)
          rcases take_up (wx.size + t.pos) ht hB with ⟨e, h1, h2, h3⟩ | ⟨h1, h2⟩
          · left
            rw [parse_no (by omega) (by rw [hS]; omega) ho2 h1]
            obtain ⟨r, rfl⟩ := parse_prefix s _ n its' l op' (by omega) hn.2 h
            exact ⟨_, _, rfl, h2, big_more r h3⟩
          · rw [parse_next (by omega) (by rw [hS]; omega) ho2 h1]
            exact wrap_go s f (F - 1) n its' l op' (by omega) hn.2 (by omega) h2 h
    · have e : i = s.size := by omega
      subst e
      rw [parse_end (by omega) (by omega)] at h
      split at h
      · cases h
      · split at h
        · cases h
        · rename_i h0 h1
          simp only [Except.ok.injEq] at h
          subst h
          have h2 : op = [] := List.length_eq_zero_iff.1 (by simpa using h1)
          subst h2
          right
          have ho2 : oneN (wx ++ (s ++ wm)) (wx.size + s.size) = .ok (⟨2, wx.size + s.size, wn, noB, []⟩, wx.size + (s.size + 4)) := by
            have := one_pre (x := s) (s := wm) (by decide) wrap_end
            have := one_pre (x := wx) (s := s ++ wm) (i := s.size) (by rw [app_size]; show s.size < s.size + 4; omega) this
            exact this
          have ht2 : takeP (wi :: its.map up) [wn] ⟨2, wx.size + s.size, wn, noB, []⟩ = .ok (wi :: its.map up, []) := by
            unfold takeP
            rw [if_pos rfl, if_pos (by simp [closesB])]
            rfl
          rw [parse_next (by omega) (by rw [hS]; omega) ho2 ht2, parse_end (by omega) (by rw [hS]; exact Nat.le_refl _), if_neg (by simp), if_neg (by simp)]
          exact ⟨rfl, hB⟩
/-- A document in an element. -/
theorem parse_wraps {s : ByteArray} {l : List Itm} (h : parseP s = .ok l) :
    (∃ z e, parseP (wx ++ s ++ wm) = .error (z, e) ∧ (e = 42 ∨ e = 43) ∧ Big l) ∨ (parseP (wx ++ s ++ wm) = .ok (wi :: l.map up) ∧ ¬ Big l) := by
  have ha : wx ++ s ++ wm = wx ++ (s ++ wm) := by
    apply bytes_one
    simp
  have hS : (wx ++ (s ++ wm)).size = 3 + (s.size + 4) := by rw [app_size, app_size]; rfl
  rw [ha]
  unfold parseP
  have ho : oneN (wx ++ (s ++ wm)) 0 = .ok (⟨1, 0, wn, noB, []⟩, 3) := one_app (by decide) wrap_beg (by decide)
  have ht : takeP [] [] ⟨1, 0, wn, noB, []⟩ = .ok ([wi], [wn]) := by simp [takeP, addE, itemOf, wi]
  rw [parse_next (by omega) (by rw [hS]; omega) ho ht]
  have := wrap_go s (s.size + 1) ((wx ++ (s ++ wm)).size + 1 - 1) 0 [] l [] (by omega) (by omega) (by rw [hS]; omega) (by rintro (⟨a, ha, _⟩ | h); cases ha; simp at h) h
  have e3 : wx.size = 3 := rfl
  simpa [e3] using this
end P
end Go.Proofs.YtmgemdhpjibdiaaDoor
