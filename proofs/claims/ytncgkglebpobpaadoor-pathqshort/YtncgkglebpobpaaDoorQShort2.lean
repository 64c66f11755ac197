/- Plain mathematics: what is written shortly is what it is short for, more. -/
import Derived.Test.YtncgkglebpobpaaDoorQShort
import Derived.Test.YtncgkglebpobpaaDoorQW2
namespace Go.Proofs.YtncgkglebpobpaaDoor
namespace Q
open L G E S
/-- Has a text two colons, one behind the other? -/
def axL : List UInt8 → Bool
  | [] => false
  | [_] => false
  | c :: d :: r => (c == 58 && d == 58) || axL (d :: r)
theorem axL_app : ∀ (w r : List UInt8), axL w = true → axL (w ++ r) = true
  | [], _, h => by cases h
  | [_], _, h => by cases h
  | c :: d :: w, r, h => by
    simp only [axL, Bool.or_eq_true] at h
    simp only [List.cons_append, axL, Bool.or_eq_true]
    rcases h with h | h
    · exact Or.inl h
    · exact Or.inr (axL_app (d :: w) r h)
theorem there_list {q : ByteArray} {t : List UInt8} (h : thereB q 0 t = true) : ∃ r, q.data.toList = t ++ r := by
  unfold thereB at h
  rw [List.drop_zero, List.isPrefixOf_iff_prefix] at h
  obtain ⟨r, hr⟩ := h
  exact ⟨r, hr.symm⟩
theorem axes_ax : ∀ a ∈ axes, axL a.2 = true := by decide
theorem axis_none {q : ByteArray} (l : List (Int × List UInt8)) (h : ∀ a ∈ l, thereB q 0 a.2 = false) : axisF q 0 l = (1, 0) := by
  induction l with
  | nil => rfl
  | cons a l ih =>
    unfold axisF
    rw [h a (List.mem_cons_self ..), if_neg (by simp), ih (fun x hx => h x (List.mem_cons_of_mem _ hx))]
theorem step_same {q : ByteArray} (h1 : thereB q 0 [46] = false) (h2 : ∀ a ∈ axes, thereB q 0 a.2 = false) : stepQ q 0 = testedQ q 0 1 := by
  unfold stepQ
  have h3 : thereB q 0 [46, 46] = false := by rw [there_two, h1]; rfl
  rw [h3, h1, if_neg (by simp), if_neg (by simp), axis_none axes h2]
theorem name_bad {l : List UInt8} (h : l = [] ∨ ∃ c r, l = c :: r ∧ (c = 46 ∨ c = 47)) : nameB l = false := by
  unfold nameB
  rcases h with rfl | ⟨c, r, rfl, hc⟩
  · decide
  · have : nextL (c :: r) = ((c.toNat : Int), 1) := by rcases hc with rfl | rfl <;> exact next_ascii (by decide) (by decide)
    rw [this]
    rcases hc with rfl | rfl
    · show (decide _ && startB (((46 : UInt8).toNat : Int)) && _) = false
      rw [show startB (((46 : UInt8).toNat : Int)) = false by decide, Bool.and_false, Bool.false_and]
    · show (decide _ && startB (((47 : UInt8).toNat : Int)) && _) = false
      rw [show startB (((47 : UInt8).toNat : Int)) = false by decide, Bool.and_false, Bool.false_and]
theorem tested_bad {q : ByteArray} (h : thereB q 0 [46] = true ∨ thereB q 0 [47] = true ∨ q.size = 0) : ∃ e, testedQ q 0 1 = .error e := by
  have h1 : thereB q 0 [42] = false ∧ thereB q 0 textW = false ∧ thereB q 0 nodeW = false ∧ nameP (q.extract 0 (nameEnd q 0)) = false := by
    rcases h with h | h | h
    · obtain ⟨r, hr⟩ := there_list h
      refine ⟨there_apart h (by decide), there_apart h (by decide), there_apart h (by decide), name_bad ?_⟩
      rw [Lib.extract_data, List.drop_zero, hr]
      cases nameEnd q 0 - 0 with
      | zero => exact Or.inl rfl
      | succ k => exact Or.inr ⟨46, _, rfl, by simp⟩
    · obtain ⟨r, hr⟩ := there_list h
      refine ⟨there_apart h (by decide), there_apart h (by decide), there_apart h (by decide), name_bad ?_⟩
      rw [Lib.extract_data, List.drop_zero, hr]
      cases nameEnd q 0 - 0 with
      | zero => exact Or.inl rfl
      | succ k => exact Or.inr ⟨47, _, rfl, by simp⟩
    · have he : ∀ c t, thereB q 0 (c :: t) = false := fun c t => by
        have := there_end q c t
        rw [h] at this
        exact this
      refine ⟨he _ _, he _ _, he _ _, name_bad (Or.inl ?_)⟩
      rw [Lib.extract_data, L.drop_end q 0 (by omega)]
      simp
  obtain ⟨h2, h3, h4, h5⟩ := h1
  unfold testedQ
  rw [h2, h3, h4]
  simp only [Bool.false_eq_true, if_false]
  rw [if_pos h5]
  exact ⟨_, rfl⟩
theorem name_colon : ∀ (w : List UInt8) (f : Nat) (r : List UInt8), (∀ c ∈ w, c.toNat < 128 ∧ charB (c.toNat : Int) = true ∧ partB (c.toNat : Int) = true) → w.length < f → nameF f (w ++ 58 :: r) = w.length
  | [], 0, _, _, h => by omega
  | [], f + 1, r, _, _ => by
    unfold nameF
    rw [List.nil_append, next_ascii (c := 58) (by decide) (by decide), if_pos (Or.inr (Or.inr (by decide)))]
    rfl
  | c :: w, 0, _, _, h => by omega
  | c :: w, f + 1, r, hc, hf => by
    obtain ⟨h1, h2, h3⟩ := hc c (List.mem_cons_self ..)
    unfold nameF
    rw [List.cons_append, next_ascii h1 h2, if_neg (by rintro (q | q | q); simp at q; simp at q; simp only at q; rw [h3] at q; cases q)]
    simp only [List.drop_succ_cons, List.drop_zero, List.length_cons]
    rw [name_colon w f r (fun x hx => hc x (List.mem_cons_of_mem _ hx)) (by simpa using hf)]
    omega
theorem axes_word : ∀ a ∈ axes, a.2 = a.2.dropLast.dropLast ++ [58, 58] ∧ (∀ c ∈ a.2.dropLast.dropLast, c.toNat < 128 ∧ charB (c.toNat : Int) = true ∧ partB (c.toNat : Int) = true) ∧ (∃ c r, a.2 = c :: r ∧ c ≠ 42 ∧ c ≠ 116 ∧ c ≠ 110) := by
  intro a ha
  unfold axes at ha
  simp only [List.mem_cons, List.not_mem_nil, or_false] at ha
  rcases ha with rfl | rfl | rfl | rfl | rfl | rfl | rfl | rfl
  all_goals exact ⟨by decide, by decide, _, _, rfl, by decide, by decide, by decide⟩
theorem axis_bad {q : ByteArray} {a : Int × List UInt8} (ha : a ∈ axes) (h : thereB q 0 a.2 = true) (acc : List Step) : ∃ e, contN q acc (testedQ q 0 1) = .error e := by
  obtain ⟨h1, h2, c, r, h3, n1, n2, n3⟩ := axes_word a ha
  have h0 := h
  obtain ⟨s, hs⟩ := there_list h
  rw [h3] at h
  have hl : q.data.toList = a.2.dropLast.dropLast ++ 58 :: (58 :: s) := by
    rw [hs]; conv => lhs; rw [h1]
    simp
  have hle := there_le (Nat.zero_le _) h0
  generalize a.2.dropLast.dropLast = w at *
  have hsz : q.data.toList.length = q.size := by simp
  have hwl : w.length + 2 ≤ q.size := by rw [← hsz, hl]; simp
  have hn : nameEnd q 0 = w.length := by
    unfold nameEnd
    rw [List.drop_zero, hl, name_colon w (q.size + 1) _ h2 (by omega)]
    omega
  have hd : q.data.toList.drop w.length = 58 :: (58 :: s) := by rw [hl, List.drop_left]
  have t91 : thereB q w.length [91] = false := by unfold thereB; rw [hd]; rfl
  have t47 : thereB q w.length [47] = false := by unfold thereB; rw [hd]; rfl
  unfold testedQ
  rw [there_apart h n1, show textW = 116 :: [101, 120, 116, 40, 41] from rfl, there_apart h n2, show nodeW = 110 :: [111, 100, 101, 40, 41] from rfl, there_apart h n3]
  simp only [Bool.false_eq_true, if_false]
  by_cases hnm : nameP (q.extract 0 (nameEnd q 0)) = false
  · rw [if_pos hnm]
    exact ⟨_, rfl⟩
  · rw [if_neg hnm, hn]
    unfold predsQ
    rw [preds_stop' t91]
    unfold contN
    simp only
    unfold parseF
    rw [if_neg (by rintro ⟨q1, _⟩; omega), if_pos t47]
    exact ⟨_, rfl⟩
def okB : Except Bad (List Step) → Bool
  | .ok _ => true
  | .error _ => false
theorem okB_sh (d : Nat) (r : Except Bad (List Step)) : okB (shE d r) = okB r := by cases r with | error e => obtain ⟨z, e⟩ := e; rfl | ok l => rfl
theorem sh_ok {d : Nat} {r : Except Bad (List Step)} {l : List Step} (h : shE d r = .ok l) : r = .ok l := by
  cases r with
  | error e => obtain ⟨z, e⟩ := e; cases h
  | ok m => exact h
/-- Either the two are read alike, or the longer one is none. -/
theorem alike (q : ByteArray) (acc : List Step) : stepQ q 0 = testedQ q 0 1 ∨ (∃ e, contN q acc (testedQ q 0 1) = .error e) := by
  cases h1 : thereB q 0 [46] with
  | true =>
    obtain ⟨e, he⟩ := tested_bad (Or.inl h1)
    exact Or.inr ⟨e, by rw [he]; rfl⟩
  | false =>
    by_cases h2 : ∃ a ∈ axes, thereB q 0 a.2 = true
    · obtain ⟨a, ha, h3⟩ := h2
      exact Or.inr (axis_bad ha h3 acc)
    · exact Or.inl (step_same h1 (fun a ha => by
        cases h : thereB q 0 a.2 with
        | false => rfl
        | true => exact absurd ⟨a, ha, h⟩ h2))
theorem no_axis {q : ByteArray} (h : axL q.data.toList = false) : ∀ a ∈ axes, thereB q 0 a.2 = false := by
  intro a ha
  cases h2 : thereB q 0 a.2 with
  | false => rfl
  | true =>
    obtain ⟨r, hr⟩ := there_list h2
    rw [hr, axL_app a.2 r (axes_ax a ha)] at h
    cases h
theorem parse_ok_size {q : ByteArray} {l : List Step} (h : parseP q = .ok l) : q.size ≤ 200 := by
  unfold parseP at h
  split at h
  · cases h
  · omega
theorem pair12 (q : ByteArray) : (∀ l m, parseP (W1 ++ q) = .ok l → parseP (W2 ++ q) = .ok m → l = m) ∧ ((W2 ++ q).size ≤ 200 → thereB q 0 [46] = false → thereB q 0 [47] = false → axL q.data.toList = false → okB (parseP (W1 ++ q)) = okB (parseP (W2 ++ q))) := by
  have z2 : W2.size = 8 := rfl
  constructor
  · intro l m h1 h2
    have hs := parse_ok_size h2
    rw [app_size, z2] at hs
    rw [short2 hs] at h2
    have h2 := sh_ok h2
    cases h47 : thereB q 0 [47] with
    | true =>
      obtain ⟨e, he⟩ := tested_bad (Or.inr (Or.inl h47))
      rw [he] at h2
      cases h2
    | false =>
      rw [short1 h47 (by omega)] at h1
      have h1 := sh_ok h1
      rcases alike q [] with h | ⟨e, he⟩
      · rw [h, h2] at h1
        exact (Except.ok.inj h1).symm
      · rw [he] at h2; cases h2
  · intro hs h46 h47 hax
    rw [app_size, z2] at hs
    rw [short2 hs, short1 h47 (by omega), okB_sh, okB_sh, step_same h46 (no_axis hax)]
theorem pair34 (q : ByteArray) : (∀ l m, parseP (W3 ++ q) = .ok l → parseP (W4 ++ q) = .ok m → l = m) ∧ ((W4 ++ q).size ≤ 200 → thereB q 0 [46] = false → thereB q 0 [47] = false → axL q.data.toList = false → okB (parseP (W3 ++ q)) = okB (parseP (W4 ++ q))) := by
  have z2 : W4.size = 35 := rfl
  constructor
  · intro l m h1 h2
    have hs := parse_ok_size h2
    rw [app_size, z2] at hs
    rw [short4 hs] at h2
    rw [short3 (by omega)] at h1
    have h1 := sh_ok h1
    have h2 := sh_ok h2
    rcases alike q [⟨3, 4, noB, []⟩] with h | ⟨e, he⟩
    · rw [h, h2] at h1
      exact (Except.ok.inj h1).symm
    · rw [he] at h2; cases h2
  · intro hs h46 h47 hax
    rw [app_size, z2] at hs
    rw [short4 hs, short3 (by omega), okB_sh, okB_sh, step_same h46 (no_axis hax)]
theorem self_one : parseP ⟨#[47, 46]⟩ = .ok [⟨8, 4, ⟨#[]⟩, []⟩] := by kernel_rfl
theorem self_two : parseP ⟨#[47, 115, 101, 108, 102, 58, 58, 110, 111, 100, 101, 40, 41]⟩ = .ok [⟨8, 4, ⟨#[]⟩, []⟩] := by kernel_rfl
theorem up_one : parseP ⟨#[47, 46, 46]⟩ = .ok [⟨4, 4, ⟨#[]⟩, []⟩] := by kernel_rfl
theorem up_two : parseP ⟨#[47, 112, 97, 114, 101, 110, 116, 58, 58, 110, 111, 100, 101, 40, 41]⟩ = .ok [⟨4, 4, ⟨#[]⟩, []⟩] := by kernel_rfl
end Q
end Go.Proofs.YtncgkglebpobpaaDoor
