/- Plain mathematics for layer lexis, more: what is undone is made of characters; attributes rise; places go on. -/
import Derived.Test.YtmgemdhpjibdiaaDoorLPlain
import Derived.Lib.Bytealg
namespace Go.Proofs.YtmgemdhpjibdiaaDoor
namespace L
open G E
theorem chars_put (c : Int) (hc : charB c = true) : chars (putL c) = some [c] := by
  have h := put_next c hc []
  simp only [List.append_nil] at h
  have hl := putN_len c
  have hne : putL c ≠ [] := by simpa using put_ne c []
  rw [chars_cons _ hne (by rw [h]; simp only; omega), h]
  have : (putL c).drop (putN c).length = [] := by simp [putL]
  simp [this, chars_nil]
theorem step_chars (v : Bool) (l : List UInt8) (h : (stepU v l).2.2 = 0) : ∃ c, chars (stepU v l).1 = some [c] := by
  unfold stepU at h ⊢
  by_cases h1 : (nextL l).1 = 38
  · simp only [h1, if_true] at h ⊢
    by_cases h2 : (refL l).2 = 0
    · simp [h2] at h
    · by_cases h3 : charB (refL l).1 = false
      · simp [h2, h3] at h
      · simp only [h2, h3, if_false]
        exact ⟨_, chars_put _ (by simpa using h3)⟩
  · simp only [h1, if_false] at h ⊢
    by_cases h2 : (nextL l).1 = 60 ∨ (nextL l).1 = 62
    · simp [h2] at h
    · simp only [h2, if_false] at h ⊢
      by_cases h3 : (nextL l).2 = 0 ∨ insteadL (nextL l).1 v ≠ []
      · rw [if_pos h3] at h; simp at h
      · rw [if_neg h3]
        have hn : (nextL l).2 ≠ 0 := fun q => h3 (Or.inl q)
        obtain ⟨p1, p2⟩ := next_putL l (nextL l).1 (nextL l).2 rfl hn
        exact ⟨(nextL l).1, by rw [← p2]; exact chars_put _ p1⟩
theorem undoF_chars (v : Bool) : ∀ (f o : Nat) (acc l r : List UInt8) (k : Nat) (xs : List Int), undoF v f o acc l = (r, k, 0) → chars acc = some xs → ∃ ys, chars r = some ys ∧ xs.length ≤ ys.length ∧ (l ≠ [] → 0 < f → xs.length < ys.length)
  | 0, o, acc, l, r, k, xs, h, ha => by
    simp only [undoF, Prod.mk.injEq] at h
    obtain ⟨rfl, _, _⟩ := h
    exact ⟨xs, ha, Nat.le_refl _, fun _ h => by omega⟩
  | f + 1, o, acc, l, r, k, xs, h, ha => by
    unfold undoF at h
    by_cases hl : l = []
    · simp only [hl, if_true, Prod.mk.injEq] at h
      obtain ⟨rfl, _, _⟩ := h
      exact ⟨xs, ha, Nat.le_refl _, fun h => absurd hl h⟩
    · rw [if_neg hl] at h
      by_cases hs : (stepU v l).2.2 = 0
      · rw [if_neg (by simp [hs])] at h
        obtain ⟨c, hc⟩ := step_chars v l hs
        obtain ⟨ys, h1, h2, _⟩ := undoF_chars v f _ _ _ r k (xs ++ [c]) h (chars_append acc _ acc.length xs [c] (Nat.le_refl _) ha hc)
        simp at h2
        exact ⟨ys, h1, by omega, fun _ _ => by omega⟩
      · rw [if_pos hs] at h
        simp only [Prod.mk.injEq] at h
        exact absurd h.2.2 hs
/-- What is undone is made of characters; if there was something, there is something. -/
theorem undo_chars (v : Bool) (b : ByteArray) (h : (undoB v b).2.2 = 0) : ∃ ys, chars (undoB v b).1.data.toList = some ys ∧ (b.size ≠ 0 → ys ≠ []) := by
  obtain ⟨ys, h1, _, h3⟩ := undoF_chars v _ 0 [] b.data.toList (undoL v b.data.toList).1 (undoL v b.data.toList).2.1 [] (by
    show undoL v b.data.toList = _
    have : (undoL v b.data.toList).2.2 = 0 := h
    rw [← this]) chars_nil
  refine ⟨ys, by simpa [undoB] using h1, fun hb => ?_⟩
  have := h3 (by intro q; have := congrArg List.length q; rw [Array.length_toList] at this; exact hb this) (by omega)
  intro q
  simp [q] at this
theorem count_of {l : List UInt8} {ys : List Int} (h : chars l = some ys) : ¬ countZ l < 0 := by
  unfold countZ
  rw [h]
  simp
theorem lt_irr (a : ByteArray) : ltB a a = false := by simp [ltB, List.lt_irrefl]
theorem lt_tr {a b c : ByteArray} (h : ltB a b = true) (k : ltB b c = true) : ltB a c = true := by
  simp only [ltB, decide_eq_true_eq] at *
  exact List.lt_trans h k
theorem lt_tri (a b : ByteArray) (h : ltB a b = false) (k : ltB b a = false) : a = b := by
  simp only [ltB, decide_eq_false_iff_not] at *
  have : a.data.toList = b.data.toList := List.le_antisymm k h
  cases a; cases b; simp_all
theorem less_lt : ∀ (x y : List UInt8), Op.bytesLess x y = decide (x < y)
  | _, [] => by simp [Op.bytesLess]
  | [], _ :: _ => by simp [Op.bytesLess]
  | a :: x, b :: y => by
    rw [Op.bytesLess, less_lt x y, ← Bool.decide_coe (decide (a < b) || a == b && decide (x < y))]
    congr 1
    simp [List.cons_lt_cons_iff]
theorem cmp_lt : ∀ (x y : List UInt8), decide (Lib.compareBytes x y < 0) = decide (x < y)
  | [], [] => by simp [Lib.compareBytes]
  | _ :: _, [] => by simp [Lib.compareBytes]
  | [], _ :: _ => by simp [Lib.compareBytes]
  | a :: x, b :: y => by
    have ih := cmp_lt x y
    rw [Lib.compareBytes]
    by_cases h1 : a < b
    · simp [h1, List.cons_lt_cons_iff]
    · by_cases h2 : b < a
      · have hne : a ≠ b := by intro q; subst q; exact h1 h2
        simp [h1, h2, List.cons_lt_cons_iff, hne]
      · have he : a = b := UInt8.le_antisymm (UInt8.not_lt.1 h2) (UInt8.not_lt.1 h1)
        subst he
        simp only [h1, if_false, ih]
        simp
/-- Names rise. -/
def Rise : List Attr → Prop
  | [] => True
  | a :: l => (∀ x ∈ l, ltB a.1 x.1 = true) ∧ Rise l
theorem mem_ins {a x : Attr} : ∀ {l : List Attr}, x ∈ insA a l ↔ x = a ∨ x ∈ l
  | [] => by simp [insA]
  | b :: l => by
    unfold insA
    split
    · simp
    · simp only [List.mem_cons, mem_ins (l := l)]
      constructor <;> (rintro (h | h | h) <;> simp [h])
theorem rise_ins {a : Attr} : ∀ {l : List Attr}, Rise l → (∀ x ∈ l, x.1 ≠ a.1) → Rise (insA a l)
  | [], _, _ => ⟨by simp, trivial⟩
  | b :: l, h, hn => by
    unfold insA
    by_cases hl : ltB a.1 b.1 = true
    · rw [if_pos hl]
      refine ⟨?_, h⟩
      intro x hx
      rcases List.mem_cons.1 hx with rfl | hx
      · exact hl
      · exact lt_tr hl (h.1 x hx)
    · rw [if_neg hl]
      refine ⟨?_, rise_ins h.2 fun x hx => hn x (List.mem_cons_of_mem _ hx)⟩
      intro x hx
      rcases mem_ins.1 hx with rfl | hx
      · cases hb : ltB b.1 x.1
        · exact absurd (lt_tri _ _ hb (by simpa using hl)) (hn b (List.mem_cons_self ..))
        · rfl
      · exact h.1 x hx
theorem perm_ins (a : Attr) : ∀ (l : List Attr), (insA a l).Perm (a :: l)
  | [] => List.Perm.refl _
  | b :: l => by
    unfold insA
    split
    · exact List.Perm.refl _
    · exact ((perm_ins a l).cons b).trans (List.Perm.swap a b l)
/-- No two names are the same. -/
def Apart : List Attr → Prop
  | [] => True
  | a :: l => (∀ x ∈ l, x.1 ≠ a.1) ∧ Apart l
theorem foldl_ins : ∀ (l acc : List Attr), Rise acc → Apart l → (∀ x ∈ acc, ∀ y ∈ l, x.1 ≠ y.1) → Rise (l.foldl (fun acc a => insA a acc) acc) ∧ (l.foldl (fun acc a => insA a acc) acc).Perm (l ++ acc)
  | [], acc, h, _, _ => ⟨h, List.Perm.refl _⟩
  | a :: l, acc, h, hA, hd => by
    simp only [List.foldl_cons]
    obtain ⟨h1, h2⟩ := foldl_ins l (insA a acc) (rise_ins h fun x hx => hd x hx a (List.mem_cons_self ..)) hA.2 (by
      intro x hx y hy
      rcases mem_ins.1 hx with rfl | hx
      · exact fun q => hA.1 y hy q.symm
      · exact hd x hx y (List.mem_cons_of_mem _ hy))
    refine ⟨h1, h2.trans ?_⟩
    exact ((perm_ins a acc).append_left l).trans List.perm_middle
theorem sort_rise (l : List Attr) (h : Apart l) : Rise (sortA l) ∧ (sortA l).Perm l := by
  have := foldl_ins l [] trivial h (by simp)
  simpa [sortA] using this
theorem sort_snoc (l : List Attr) (a : Attr) : sortA (l ++ [a]) = insA a (sortA l) := by simp [sortA]
theorem rise_one : ∀ {l m : List Attr}, Rise l → Rise m → l.Perm m → l = m
  | [], m, _, _, h => (List.nil_perm.1 h).symm
  | a :: l, [], _, _, h => absurd h.length_eq (by simp)
  | a :: l, b :: m, hl, hm, h => by
    have ha : a ∈ b :: m := h.subset (List.mem_cons_self ..)
    have hb : b ∈ a :: l := h.symm.subset (List.mem_cons_self ..)
    have hab : a = b := by
      rcases List.mem_cons.1 ha with q | q
      · exact q
      · rcases List.mem_cons.1 hb with r | r
        · exact r.symm
        · have h1 := hm.1 a q
          have h2 := hl.1 b r
          have := lt_tr h1 h2
          rw [lt_irr] at this
          cases this
    subst hab
    rw [rise_one hl.2 hm.2 ((List.perm_cons a).1 h)]
theorem apart_snoc {l : List Attr} {a : Attr} (h : Apart l) (hn : ∀ x ∈ l, x.1 ≠ a.1) : Apart (l ++ [a]) := by
  induction l with
  | nil => exact ⟨by simp, trivial⟩
  | cons b l ih =>
    refine ⟨?_, ih h.2 fun x hx => hn x (List.mem_cons_of_mem _ hx)⟩
    intro x hx
    rcases List.mem_append.1 hx with hx | hx
    · exact h.1 x hx
    · simp only [List.mem_singleton] at hx
      subst hx
      exact fun q => hn b (List.mem_cons_self ..) q.symm
end L
end Go.Proofs.YtmgemdhpjibdiaaDoor
