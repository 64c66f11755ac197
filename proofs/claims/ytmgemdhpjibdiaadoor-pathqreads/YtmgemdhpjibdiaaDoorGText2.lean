/- Plain mathematics for layer glyph: what was put is next; a text's characters, their count, names. No program is spoken of here. -/
import Derived.Test.YtmgemdhpjibdiaaDoorGText
namespace Go.Proofs.YtmgemdhpjibdiaaDoor
namespace G
theorem at_nums (l : List UInt8) (k : Nat) (h : k < l.length) : at' l k = (nums l).getD k 0 := by
  simp [at', nums, List.getElem?_eq_getElem h]
theorem at_put (c : Int) (hc : charB c = true) (more : List UInt8) (k : Nat) (hk : k < (putN c).length) : at' (putL c ++ more) k = (putN c).getD k 0 := by
  have hr := char_range c hc
  have hlen : (putL c).length = (putN c).length := by simp [putL]
  have : at' (putL c ++ more) k = at' (putL c) k := by
    unfold at'
    rw [List.getD_eq_getElem?_getD, List.getD_eq_getElem?_getD, List.getElem?_append_left (by omega)]
  rw [this, at_nums _ _ (by omega), nums_putL c (by omega) hr.2]
theorem put_len (c : Int) (more : List UInt8) : (putN c).length ≤ (putL c ++ more).length := by simp [putL]
theorem put_ne (c : Int) (more : List UInt8) : putL c ++ more ≠ [] := by
  intro h
  have h2 := (putN_len c).1
  have h3 := put_len c more
  rw [h] at h3
  simp at h3
  rw [h3] at h2
  simp at h2
theorem put_next (c : Int) (hc : charB c = true) (more : List UInt8) : nextL (putL c ++ more) = (c, (putN c).length) := by
  have hr := char_range c hc
  have hl := put_ne c more
  have hln := put_len c more
  have ha := at_put c hc more
  generalize putL c ++ more = l at *
  by_cases c1 : c < 128
  · have e : putN c = [c] := by unfold putN; rw [if_pos c1]
    rw [e] at ha hln ⊢
    have a0 := ha 0 (by simp)
    simp at a0
    have v : valTo c l 1 = c := by simp [valTo]
    have q := nextW_ok (t := 0) (m := 1) (h := c) hl (by rw [a0]; exact leadW1 c c1) (by omega) hln (by simp [contTo]) (by rw [v]; omega) (by rw [v]; exact hc)
    rw [q, v]; rfl
  by_cases c2 : c < 2048
  · have e : putN c = [192 + c / 64, 128 + c % 64] := by unfold putN; rw [if_neg c1, if_pos c2]
    rw [e] at ha hln ⊢
    have a0 := ha 0 (by simp)
    have a1 := ha 1 (by simp)
    simp at a0 a1
    have v : valTo (at' l 0 % 32) l 2 = c := by rw [val2]; omega
    have q := nextW_ok (t := 128) (m := 2) (h := at' l 0 % 32) hl (leadW2 _ (by simp; omega)) (by omega) hln (by rw [cont2]; simp [contB]; omega) (by rw [v]; omega) (by rw [v]; exact hc)
    rw [q, v]; rfl
  by_cases c3 : c < 65536
  · have e : putN c = [224 + c / 4096, 128 + c / 64 % 64, 128 + c % 64] := by unfold putN; rw [if_neg c1, if_neg c2, if_pos c3]
    rw [e] at ha hln ⊢
    have a0 := ha 0 (by simp)
    have a1 := ha 1 (by simp)
    have a2 := ha 2 (by simp)
    simp at a0 a1 a2
    have v : valTo (at' l 0 % 16) l 3 = c := by rw [val3]; omega
    have q := nextW_ok (t := 2048) (m := 3) (h := at' l 0 % 16) hl (leadW3 _ (by simp; omega)) (by omega) hln (by rw [cont3]; simp [contB]; omega) (by rw [v]; omega) (by rw [v]; exact hc)
    rw [q, v]; rfl
  · have e : putN c = [240 + c / 262144, 128 + c / 4096 % 64, 128 + c / 64 % 64, 128 + c % 64] := by unfold putN; rw [if_neg c1, if_neg c2, if_neg c3]
    rw [e] at ha hln ⊢
    have a0 := ha 0 (by simp)
    have a1 := ha 1 (by simp)
    have a2 := ha 2 (by simp)
    have a3 := ha 3 (by simp)
    simp at a0 a1 a2 a3
    have v : valTo (at' l 0 % 8) l 4 = c := by rw [val4]; omega
    have q := nextW_ok (t := 65536) (m := 4) (h := at' l 0 % 8) hl (leadW4 _ (by simp; omega)) (by omega) hln (by rw [cont4]; simp [contB]; omega) (by rw [v]; omega) (by rw [v]; exact hc)
    rw [q, v]; rfl
/-- The character that a text begins with does not hang on what stands behind it. -/
theorem next_ahead (l more : List UInt8) (c : Int) (n : Nat) (h : nextL l = (c, n)) (hn : n ≠ 0) : nextL (l ++ more) = (c, n) ∧ nextL (l.take n) = (c, n) := by
  obtain ⟨hc, hp⟩ := next_putL l c n h hn
  have hle : n ≤ l.length := by have := next_le l; rw [h] at this; exact this
  have hlen : (putN c).length = n := by
    have := congrArg List.length hp
    simp [putL] at this
    omega
  constructor
  · have : l ++ more = putL c ++ (l.drop n ++ more) := by rw [hp, ← List.append_assoc, List.take_append_drop]
    rw [this, put_next c hc, hlen]
  · have : l.take n = putL c ++ [] := by rw [hp, List.append_nil]
    rw [this, put_next c hc, hlen]

/-- The characters of a text; none, if it is not made of such. -/
def charsF : Nat → List UInt8 → Option (List Int)
  | 0, _ => none
  | f + 1, l => if l = [] then some [] else if (nextL l).2 = 0 then none else (charsF f (l.drop (nextL l).2)).map ((nextL l).1 :: ·)
theorem charsF_enough : ∀ (f g : Nat) (l : List UInt8), l.length < f → l.length < g → charsF f l = charsF g l
  | 0, _, _, h, _ => by omega
  | _, 0, _, _, h => by omega
  | f + 1, g + 1, l, hf, hg => by
    unfold charsF
    split
    · rfl
    · split
      · rfl
      · rename_i h1 h2
        have := next_le l
        rw [charsF_enough f g (l.drop (nextL l).2) (by simp; omega) (by simp; omega)]
def chars (l : List UInt8) : Option (List Int) := charsF (l.length + 1) l
theorem chars_nil : chars [] = some [] := rfl
theorem chars_none (l : List UInt8) (h : l ≠ []) (hn : (nextL l).2 = 0) : chars l = none := by
  unfold chars charsF; rw [if_neg h, if_pos hn]
theorem chars_cons (l : List UInt8) (h : l ≠ []) (hn : (nextL l).2 ≠ 0) : chars l = (chars (l.drop (nextL l).2)).map ((nextL l).1 :: ·) := by
  have hl := next_le l
  unfold chars
  conv => lhs; unfold charsF
  rw [if_neg h, if_neg hn, charsF_enough l.length ((l.drop (nextL l).2).length + 1) _ (by simp; omega) (by omega)]
theorem chars_append (a b : List UInt8) : ∀ (n : Nat) (xs ys : List Int), a.length ≤ n → chars a = some xs → chars b = some ys → chars (a ++ b) = some (xs ++ ys) := by
  intro n
  induction n generalizing a with
  | zero =>
    intro xs ys hn ha hb
    have : a = [] := by simpa using hn
    subst this
    rw [chars_nil] at ha
    cases ha
    simpa using hb
  | succ n ih =>
    intro xs ys hn ha hb
    by_cases e : a = []
    · subst e
      rw [chars_nil] at ha
      cases ha
      simpa using hb
    · by_cases z : (nextL a).2 = 0
      · rw [chars_none a e z] at ha; cases ha
      · rw [chars_cons a e z] at ha
        obtain ⟨zs, hz, rfl⟩ := Option.map_eq_some_iff.1 ha
        obtain ⟨q, _⟩ := next_ahead a b (nextL a).1 (nextL a).2 rfl z
        have hle := next_le a
        have hd : (a ++ b).drop (nextL a).2 = a.drop (nextL a).2 ++ b := by rw [List.drop_append_of_le_length hle]
        rw [chars_cons (a ++ b) (by simp [e]) (by rw [q]; exact z), q]
        simp only
        rw [hd, ih (a.drop (nextL a).2) zs ys (by simp; omega) hz hb]
        rfl
def countZ (l : List UInt8) : Int := match chars l with | none => -1 | some cs => (cs.length : Int)
theorem chars_len (n : Nat) : ∀ (l : List UInt8) (cs : List Int), l.length ≤ n → chars l = some cs → cs.length ≤ l.length := by
  induction n with
  | zero =>
    intro l cs hn h
    have : l = [] := by simpa using hn
    subst this
    rw [chars_nil] at h
    cases h
    simp
  | succ n ih =>
    intro l cs hn h
    by_cases e : l = []
    · subst e; rw [chars_nil] at h; cases h; simp
    · by_cases z : (nextL l).2 = 0
      · rw [chars_none l e z] at h; cases h
      · rw [chars_cons l e z] at h
        obtain ⟨zs, hz, rfl⟩ := Option.map_eq_some_iff.1 h
        have hle := next_le l
        have := ih (l.drop (nextL l).2) zs (by simp; omega) hz
        simp at this ⊢
        omega
/-- All characters of a text are name parts. -/
def partsB (l : List UInt8) : Bool := match chars l with | none => false | some cs => cs.all partB
theorem part_minus : partB (-1) = false := by decide
theorem start_zero : startB 0 = false := by decide
theorem start_minus : startB (-1) = false := by decide
theorem parts_nil : partsB [] = true := rfl
theorem parts_cons (l : List UInt8) (h : l ≠ []) : partsB l = (partB (nextL l).1 && partsB (l.drop (nextL l).2)) := by
  by_cases z : (nextL l).2 = 0
  · rw [next_zero l h z, part_minus]
    unfold partsB
    rw [chars_none l h z]
    rfl
  · unfold partsB
    rw [chars_cons l h z]
    cases chars (l.drop (nextL l).2) <;> simp
def nameB (l : List UInt8) : Bool := decide (l.length ≤ 60) && startB (nextL l).1 && partsB l
end G
end Go.Proofs.YtmgemdhpjibdiaaDoor
