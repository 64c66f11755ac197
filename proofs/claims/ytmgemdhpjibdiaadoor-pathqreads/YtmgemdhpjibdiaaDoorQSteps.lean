/- Plain mathematics for layer pathq: what is written of steps that may be is read as these. No program is spoken of here. -/
import Derived.Test.YtmgemdhpjibdiaaDoorQBack
namespace Go.Proofs.YtmgemdhpjibdiaaDoor
namespace Q
open L G E S
theorem part_byte (c : Int) (hc : partB c = true) : ∀ b ∈ putL c, b ≠ 40 ∧ b ≠ 42 := by
  have hch := part_char c hc
  have hr := char_range c hch
  intro b hb
  unfold putL at hb
  obtain ⟨n, hn, rfl⟩ := List.mem_map.1 hb
  have key : 0 ≤ n ∧ n < 256 ∧ n ≠ 40 ∧ n ≠ 42 := by
    by_cases h : c < 128
    · rw [put1 c h] at hn
      simp only [List.mem_singleton] at hn
      subst hn
      unfold partB startB at hc
      simp only [Bool.or_eq_true, decide_eq_true_eq] at hc
      omega
    · have := putN_high c (by omega) hr.2 n hn
      omega
  constructor <;> (intro q; have e := congrArg UInt8.toNat q; simp at e; omega)
theorem name_byte {nm : ByteArray} (h : nameP nm = true) : ∀ b ∈ nm.data.toList, b ≠ 40 ∧ b ≠ 42 := by
  unfold nameP nameB at h
  simp only [Bool.and_eq_true] at h
  have hp := h.2
  unfold partsB at hp
  cases hc : chars nm.data.toList with
  | none => rw [hc] at hp; cases hp
  | some cs =>
    rw [hc] at hp
    have hf := (chars_flat _ _ _ (Nat.le_refl _) hc).1
    intro b hm
    rw [← hf] at hm
    obtain ⟨x, hx, hm⟩ := List.mem_flatMap.1 hm
    exact part_byte x (List.all_eq_true.1 hp x hx) b hm
theorem not_call {nm : List UInt8} {post t : List UInt8} (hn : ∀ b ∈ nm, b ≠ 40) (hp : post = [] ∨ ∃ c r, post = c :: r ∧ (c = 91 ∨ c = 47)) (ht : t = textW ∨ t = nodeW) : t.isPrefixOf (nm ++ post) = false := by
  cases hb : t.isPrefixOf (nm ++ post) with
  | false => rfl
  | true =>
    exfalso
    rw [List.isPrefixOf_iff_prefix] at hb
    obtain ⟨r, hr⟩ := hb
    have hl : t.length = 6 := by rcases ht with rfl | rfl <;> rfl
    have key : ∀ j, j < 6 → (nm ++ post)[j]? = t[j]? := by
      intro j hj
      rw [← hr, List.getElem?_append_left (by omega)]
    by_cases h4 : 4 < nm.length
    · have := key 4 (by omega)
      rw [List.getElem?_append_left h4] at this
      have h40 : t[4]? = some 40 := by rcases ht with rfl | rfl <;> rfl
      rw [h40] at this
      exact hn 40 (List.mem_of_getElem? this) rfl
    · have hk := key nm.length (by omega)
      rw [List.getElem?_append_right (Nat.le_refl _), Nat.sub_self] at hk
      rcases hp with hp | ⟨c, r', hp, hc⟩
      · rw [hp] at hk
        have hs : t[nm.length]? = some (t[nm.length]'(by omega)) := List.getElem?_eq_getElem _
        rw [hs] at hk
        simp at hk
      · rw [hp] at hk
        simp only [List.getElem?_cons_zero] at hk
        have hm : nm.length = 0 ∨ nm.length = 1 ∨ nm.length = 2 ∨ nm.length = 3 ∨ nm.length = 4 := by omega
        rcases ht with rfl | rfl <;> rcases hm with q | q | q | q | q <;> rw [q] at hk <;> simp only [textW, nodeW, List.getElem?_cons_zero, List.getElem?_cons_succ, Option.some.injEq] at hk <;> rcases hc with r | r <;> rw [r] at hk <;> exact absurd hk (by decide)
theorem axis_all {a : Int} (h1 : 1 ≤ a) (h2 : a ≤ 8) : a = 1 ∨ a = 2 ∨ a = 3 ∨ a = 4 ∨ a = 5 ∨ a = 6 ∨ a = 7 ∨ a = 8 := by omega
theorem axis_head {a : Int} (h1 : 1 ≤ a) (h2 : a ≤ 8) : ∃ c r, axisW a = c :: r ∧ c ≠ 46 ∧ c ≠ 47 := by
  rcases axis_all h1 h2 with rfl | rfl | rfl | rfl | rfl | rfl | rfl | rfl <;> exact ⟨_, _, rfl, by decide, by decide⟩
theorem axis_at {a : Int} (pre rest : List UInt8) (h1 : 1 ≤ a) (h2 : a ≤ 8) : axisF (bA (pre ++ (axisW a ++ rest))) pre.length axes = (a, pre.length + (axisW a).length) := by
  rcases axis_all h1 h2 with rfl | rfl | rfl | rfl | rfl | rfl | rfl | rfl <;> simp [axisF, axes, there_pre, axisW, List.isPrefixOf]
theorem preds_head {l : List Pred} {post : List UInt8} (hp : post = [] ∨ ∃ r, post = 47 :: r) : predsW l ++ post = [] ∨ ∃ c r, predsW l ++ post = c :: r ∧ (c = 91 ∨ c = 47) := by
  cases l with
  | nil =>
    rcases hp with rfl | ⟨r, rfl⟩
    · exact Or.inl rfl
    · exact Or.inr ⟨47, r, rfl, Or.inr rfl⟩
  | cons p l => exact Or.inr ⟨91, _, rfl, Or.inl rfl⟩
theorem predsQ_at {s : Step} {pre post : List UInt8} (hr : ∀ p ∈ s.preds, rightP p) (hl : s.preds.length ≤ 5) (hp : post = [] ∨ ∃ r, post = 47 :: r) (s0 : Step) (h0 : { s0 with preds := s.preds } = s) : predsQ (bA (pre ++ (predsW s.preds ++ post))) pre.length s0 = .ok (s, pre.length + (predsW s.preds).length) := by
  unfold predsQ
  rw [preds_at (by rcases hp with rfl | ⟨r, rfl⟩ <;> simp) s.preds [] 6 pre hr (by simpa using hl) (by omega)]
  simp only [List.nil_append]
  rw [h0]
theorem step_at {s : Step} {pre post : List UInt8} (h : rightS s) (hp : post = [] ∨ ∃ r, post = 47 :: r) : stepQ (bA (pre ++ (stepW s ++ post))) pre.length = .ok (s, pre.length + (stepW s).length) := by
  obtain ⟨⟨a1, a2⟩, ht, hl, hr⟩ := h
  obtain ⟨c, r, hc, c1, c2⟩ := axis_head a1 a2
  have e0 : stepW s ++ post = axisW s.axis ++ (testW s.test ++ (s.name.data.toList ++ (predsW s.preds ++ post))) := by simp [stepW]
  have e1 : pre ++ (stepW s ++ post) = (pre ++ axisW s.axis) ++ (testW s.test ++ (s.name.data.toList ++ (predsW s.preds ++ post))) := by simp [stepW]
  have hh : stepW s ++ post = c :: (r ++ (testW s.test ++ (s.name.data.toList ++ (predsW s.preds ++ post)))) := by rw [e0, hc]; rfl
  have d1 : thereB (bA (pre ++ (stepW s ++ post))) pre.length [46, 46] = false := by rw [there_pre]; exact not_pre hh rfl c1.symm
  have d2 : thereB (bA (pre ++ (stepW s ++ post))) pre.length [46] = false := by rw [there_pre]; exact not_pre hh rfl c1.symm
  have ax : axisF (bA (pre ++ (stepW s ++ post))) pre.length axes = (s.axis, pre.length + (axisW s.axis).length) := by rw [e0]; exact axis_at pre _ a1 a2
  unfold stepQ
  rw [if_neg (by rw [d1]; simp), if_neg (by rw [d2]; simp), ax]
  simp only
  rw [e1, show pre.length + (axisW s.axis).length = (pre ++ axisW s.axis).length by simp]
  have hlen : (stepW s).length = (axisW s.axis).length + (testW s.test).length + s.name.data.toList.length + (predsW s.preds).length := by simp [stepW]; omega
  rw [hlen]
  generalize hP : pre ++ axisW s.axis = P
  have hPl : pre.length + (axisW s.axis).length = P.length := by rw [← hP]; simp
  rcases ht with ⟨t1, t2⟩ | ⟨t1, t2⟩
  · -- a name
    have et : testW s.test = [] := by rw [t1]; rfl
    rw [et, List.nil_append]
    have hpost := preds_head (l := s.preds) hp
    obtain ⟨b, w, hb, _⟩ := name_cons t2
    have hb2 := (name_byte t2 b (by rw [hb]; simp)).2
    have hl0 : s.name.data.toList ++ (predsW s.preds ++ post) = b :: (w ++ (predsW s.preds ++ post)) := by rw [hb]; rfl
    have n1 : nameEnd (bA (P ++ (s.name.data.toList ++ (predsW s.preds ++ post)))) P.length = P.length + s.name.data.toList.length := by
      refine name_at t2 ?_
      rcases hpost with q | ⟨c, r, q, hc⟩
      · exact Or.inl q
      · exact Or.inr ⟨c, r, q, by rcases hc with z | z <;> simp [z]⟩
    have x1 : (bA (P ++ (s.name.data.toList ++ (predsW s.preds ++ post)))).extract P.length (P.length + s.name.data.toList.length) = s.name := by
      have := ext_at P s.name.data.toList (predsW s.preds ++ post)
      rw [bA_self] at this
      exact this
    unfold testedQ
    rw [there_pre, there_pre, there_pre, not_pre hl0 (show [42] = 42 :: [] from rfl) hb2.symm, not_call (fun z hz => (name_byte t2 z hz).1) hpost (Or.inl rfl), not_call (fun z hz => (name_byte t2 z hz).1) hpost (Or.inr rfl)]
    simp only [Bool.false_eq_true, if_false]
    rw [n1, x1, if_neg (by rw [t2]; simp)]
    have e5 : P ++ (s.name.data.toList ++ (predsW s.preds ++ post)) = (P ++ s.name.data.toList) ++ (predsW s.preds ++ post) := by simp
    have := predsQ_at (s := s) (pre := P ++ s.name.data.toList) hr hl hp ⟨s.axis, 1, s.name, []⟩ (by cases s; simp only at t1 ⊢; rw [t1])
    rw [e5]
    rw [show (P ++ s.name.data.toList).length = P.length + s.name.data.toList.length by simp] at this
    rw [this]
    simp only [Except.ok.injEq, Prod.mk.injEq, true_and, List.length_nil]
    omega
  · have en : s.name.data.toList = [] := by rw [t2]; rfl
    rw [en, List.nil_append]
    have fin : ∀ (tw : List UInt8) (s0 : Step), testW s.test = tw → { s0 with preds := s.preds } = s → predsQ (bA (P ++ (tw ++ (predsW s.preds ++ post)))) (P.length + tw.length) s0 = .ok (s, P.length + tw.length + (predsW s.preds).length) := by
      intro tw s0 _ hs0
      have := predsQ_at (s := s) (pre := P ++ tw) hr hl hp s0 hs0
      rw [show (P ++ tw).length = P.length + tw.length by simp] at this
      rw [show P ++ (tw ++ (predsW s.preds ++ post)) = (P ++ tw) ++ (predsW s.preds ++ post) by simp]
      exact this
    rcases t1 with t1 | t1 | t1
    · have et : testW s.test = [42] := by rw [t1]; rfl
      rw [et]
      have f1 := fin [42] ⟨s.axis, 2, noB, []⟩ et (by cases s; simp only at t1 t2 ⊢; rw [t1, t2])
      unfold testedQ
      rw [if_pos (there_at P [42] _)]
      simp only [List.length_cons, List.length_nil, Nat.zero_add] at f1
      rw [f1]
      simp only [Except.ok.injEq, Prod.mk.injEq, true_and, List.length_cons, List.length_nil]
      omega
    · have et : testW s.test = textW := by rw [t1]; rfl
      rw [et]
      have f1 := fin textW ⟨s.axis, 3, noB, []⟩ et (by cases s; simp only at t1 t2 ⊢; rw [t1, t2])
      unfold testedQ
      rw [if_neg (by rw [there_pre, not_pre (show textW ++ (predsW s.preds ++ post) = 116 :: _ from rfl) (show [42] = 42 :: [] from rfl) (by decide)]; simp), if_pos (there_at P textW _)]
      rw [show textW.length = 6 from rfl] at f1 ⊢
      rw [f1]
      simp only [Except.ok.injEq, Prod.mk.injEq, true_and, List.length_nil]
      omega
    · have et : testW s.test = nodeW := by rw [t1]; rfl
      rw [et]
      have f1 := fin nodeW ⟨s.axis, 4, noB, []⟩ et (by cases s; simp only at t1 t2 ⊢; rw [t1, t2])
      unfold testedQ
      rw [if_neg (by rw [there_pre, not_pre (show nodeW ++ (predsW s.preds ++ post) = 110 :: _ from rfl) (show [42] = 42 :: [] from rfl) (by decide)]; simp), if_neg (by rw [there_pre, not_pre (show nodeW ++ (predsW s.preds ++ post) = 110 :: _ from rfl) (show textW = 116 :: _ from rfl) (by decide)]; simp), if_pos (there_at P nodeW _)]
      rw [show nodeW.length = 6 from rfl] at f1 ⊢
      rw [f1]
      simp only [Except.ok.injEq, Prod.mk.injEq, true_and, List.length_nil]
      omega
theorem steps_head (l : List Step) : stepsW l = [] ∨ ∃ r, stepsW l = 47 :: r := by
  cases l with
  | nil => exact Or.inl rfl
  | cons s l => exact Or.inr ⟨_, rfl⟩
theorem steps_goes : ∀ (l acc : List Step) (f : Nat) (pre : List UInt8), (∀ s ∈ l, rightS s) → acc.length + l.length ≤ 20 → (acc ≠ [] ∨ l ≠ []) → l.length < f → parseF f (bA (pre ++ stepsW l)) pre.length acc = .ok (acc ++ l)
  | [], acc, 0, _, _, _, _, h => by omega
  | [], acc, f + 1, pre, _, _, hne, _ => by
    unfold parseF
    rw [if_pos ⟨by rw [bA_size]; simp [stepsW], by simpa using hne⟩]
    simp
  | s :: l, acc, 0, _, _, _, _, h => by omega
  | s :: l, acc, f + 1, pre, hr, hl, _, hf => by
    have hs := hr s (List.mem_cons_self ..)
    obtain ⟨c, r, hc, c1, c2⟩ := axis_head hs.1.1 hs.1.2
    have e0 : pre ++ stepsW (s :: l) = pre ++ ([47] ++ (stepW s ++ stepsW l)) := by simp [stepsW]
    have e1 : pre ++ stepsW (s :: l) = (pre ++ [47]) ++ (stepW s ++ stepsW l) := by simp [stepsW]
    have hsz : pre.length < (bA (pre ++ stepsW (s :: l))).size := by rw [bA_size, e0]; simp
    have t1 : thereB (bA (pre ++ stepsW (s :: l))) pre.length [47] = true := by rw [e0]; exact there_at _ _ _
    have t2 : thereB (bA (pre ++ stepsW (s :: l))) (pre.length + 1) [47] = false := by
      have := there_not (pre ++ [47]) (stepW s ++ stepsW l) 47 [] (by unfold stepW; rw [hc]; simpa using c2)
      rw [e1]
      simpa using this
    have st : stepQ (bA (pre ++ stepsW (s :: l))) (pre.length + 1) = .ok (s, pre.length + 1 + (stepW s).length) := by
      have := step_at (pre := pre ++ [47]) hs (steps_head l)
      rw [e1]
      simpa using this
    unfold parseF
    rw [if_neg (fun q => by omega), if_neg (by rw [t1]; simp)]
    simp only [t2, Bool.false_eq_true, if_false]
    rw [if_neg (by simp at hl; omega), st]
    simp only
    have e2 : pre ++ stepsW (s :: l) = (pre ++ [47] ++ stepW s) ++ stepsW l := by simp [stepsW]
    have ih := steps_goes l (acc ++ [s]) f (pre ++ [47] ++ stepW s) (fun z hz => hr z (List.mem_cons_of_mem _ hz)) (by simp at hl ⊢; omega) (Or.inl (by simp)) (by simpa using hf)
    have hlen : (pre ++ [47] ++ stepW s).length = pre.length + 1 + (stepW s).length := by simp; omega
    rw [hlen] at ih
    rw [e2, ih]
    simp
theorem steps_len : ∀ (l : List Step), l.length ≤ (stepsW l).length
  | [] => Nat.le_refl _
  | s :: l => by
    have := steps_len l
    simp [stepsW]
    omega
/-- What is written of steps that may be is read as these, if it is not too long. -/
theorem query_back {l : List Step} (h : ∀ s ∈ l, rightS s) (h1 : l ≠ []) (h2 : l.length ≤ 20) (hz : (stepsW l).length ≤ 200) : parseP (bA (stepsW l)) = .ok l := by
  unfold parseP
  rw [if_neg (by rw [bA_size]; omega)]
  have := steps_goes l [] ((bA (stepsW l)).size + 1) [] h (by simpa using h2) (Or.inr h1) (by have := steps_len l; rw [bA_size]; omega)
  simpa using this
end Q
end Go.Proofs.YtmgemdhpjibdiaaDoor
