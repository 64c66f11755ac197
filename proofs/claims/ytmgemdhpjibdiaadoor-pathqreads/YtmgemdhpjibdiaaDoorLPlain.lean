/- Plain mathematics for layer lexis: blanks, words, tags and texts over a text and a place in it. No program is spoken of here. -/
import Derived.Test.YtmgemdhpjibdiaaDoorEBack
namespace Go.Proofs.YtmgemdhpjibdiaaDoor
namespace L
open G E
def blankB (c : UInt8) : Bool := c == 32 || c == 9 || c == 10
def wordB (c : UInt8) : Bool := !(blankB c) && c != 61 && c != 62 && c != 60 && c != 47 && c != 34
def notB (b c : UInt8) : Bool := c != b
/-- The place behind all bytes of a kind, from a place on. -/
def runP (p : UInt8 → Bool) (s : ByteArray) (i : Nat) : Nat := i + ((s.data.toList.drop i).takeWhile p).length
/-- Does a text stand at a place? -/
def thereB (s : ByteArray) (i : Nat) (t : List UInt8) : Bool := t.isPrefixOf (s.data.toList.drop i)
abbrev Attr := ByteArray × ByteArray
def undoB (v : Bool) (b : ByteArray) : ByteArray × Nat × Int := (⟨(undoL v b.data.toList).1.toArray⟩, (undoL v b.data.toList).2.1, (undoL v b.data.toList).2.2)
def nameP (b : ByteArray) : Bool := nameB b.data.toList
structure Tok where
  kind : Int
  pos : Nat
  name : ByteArray
  text : ByteArray
  attrs : List Attr
def noB : ByteArray := ⟨#[]⟩
abbrev Bad := Int × Int
/-- Is a name ahead of another one? -/
def ltB (a b : ByteArray) : Bool := decide (a.data.toList < b.data.toList)
/-- An attribute among others that rise: ahead of the first one with a greater name. -/
def insA (a : Attr) : List Attr → List Attr
  | [] => [a]
  | b :: l => if ltB a.1 b.1 = true then a :: b :: l else b :: insA a l
def sortA (l : List Attr) : List Attr := l.foldl (fun acc a => insA a acc) []
def textP (s : ByteArray) (i : Nat) : Except Bad (Tok × Nat) :=
  let j := runP (notB 60) s i
  let u := undoB false (s.extract i j)
  if u.2.2 ≠ 0 then .error (((i + u.2.1 : Nat) : Int), u.2.2) else if 1500 < u.1.size then .error ((i : Int), 34)
  else .ok (⟨4, i, noB, u.1, []⟩, j)
def endP (s : ByteArray) (i : Nat) : Except Bad (Tok × Nat) :=
  let j := runP wordB s (i + 2)
  let k := runP blankB s j
  if nameP (s.extract (i + 2) j) = false then .error (((i + 2 : Nat) : Int), 31)
  else if thereB s k [62] = true then .ok (⟨2, i, s.extract (i + 2) j, noB, []⟩, k + 1) else .error ((k : Int), 30)
def attrP (s : ByteArray) (i : Nat) (acc : List Attr) : Except Bad (Attr × Nat) :=
  let j := runP wordB s i
  let n := s.extract i j
  let k := runP (notB 34) s (j + 2)
  let u := undoB true (s.extract (j + 2) k)
  if nameP n = false then .error ((i : Int), 31)
  else if 20 ≤ acc.length then .error ((i : Int), 33)
  else if (acc.any fun a => decide (a.1 = n)) = true then .error ((i : Int), 32)
  else if thereB s j [61] = false then .error ((j : Int), 30)
  else if thereB s (j + 1) [34] = false then .error (((j + 1 : Nat) : Int), 30)
  else if s.size ≤ k then .error ((k : Int), 30)
  else if u.2.2 ≠ 0 then .error (((j + 2 + u.2.1 : Nat) : Int), u.2.2)
  else if 1500 < u.1.size then .error (((j + 1 : Nat) : Int), 34)
  else .ok ((n, u.1), k + 1)
/-- Should an attribute be behind the blanks from i to k? -/
def moreB (s : ByteArray) (i k : Nat) : Bool := decide (i < k) && decide (k < s.size) && !thereB s k [62] && !thereB s k [47, 62]
def attrsF : Nat → ByteArray → Nat → List Attr → Except Bad (List Attr × Nat)
  | 0, _, i, acc => .ok (acc, i)
  | f + 1, s, i, acc => if moreB s i (runP blankB s i) = true then
      (match attrP s (runP blankB s i) acc with
        | .error e => .error e
        | .ok (a, n) => attrsF f s n (acc ++ [a]))
      else .ok (acc, runP blankB s i)
def begP (s : ByteArray) (i : Nat) : Except Bad (Tok × Nat) :=
  let j := runP wordB s (i + 1)
  let n := s.extract (i + 1) j
  if nameP n = false then .error (((i + 1 : Nat) : Int), 31)
  else match attrsF (s.size + 1) s j [] with
    | .error e => .error e
    | .ok (acc, k) => if thereB s k [62] = true then .ok (⟨1, i, n, noB, sortA acc⟩, k + 1)
      else if thereB s k [47, 62] = true then .ok (⟨3, i, n, noB, sortA acc⟩, k + 2) else .error ((k : Int), 30)
def oneN (s : ByteArray) (i : Nat) : Except Bad (Tok × Nat) :=
  if thereB s i [60, 47] = true then endP s i else if thereB s i [60] = true then begP s i else textP s i
/-- The token at a place, and the place behind it; or the place of what is amiss, and how. -/
def oneP (s : ByteArray) (z : Int) : Except Bad (Tok × Nat) := if z < 0 ∨ (s.size : Int) ≤ z then .error (z, 30) else oneN s z.toNat
def allF : Nat → ByteArray → Nat → List Tok → Except Bad (List Tok)
  | 0, _, _, acc => .ok acc
  | f + 1, s, i, acc => if s.size ≤ i then .ok acc else match oneN s i with
    | .error e => .error e
    | .ok (t, n) => allF f s n (acc ++ [t])
def allP (s : ByteArray) : Except Bad (List Tok) := allF (s.size + 1) s 0 []

theorem drop_at (s : ByteArray) (i : Nat) (h : i < s.size) : s.data.toList.drop i = s[i] :: s.data.toList.drop (i + 1) := by
  have := List.drop_eq_getElem_cons (l := s.data.toList) (i := i) (by simpa using h)
  rw [this]
  rfl
theorem drop_end (s : ByteArray) (i : Nat) (h : s.size ≤ i) : s.data.toList.drop i = [] := List.drop_eq_nil_of_le (by simpa using h)
theorem run_yes {p : UInt8 → Bool} {s : ByteArray} {i : Nat} (h : i < s.size) (hp : p s[i] = true) : runP p s i = runP p s (i + 1) := by
  unfold runP
  rw [drop_at s i h, List.takeWhile_cons_of_pos hp]
  simp
  omega
theorem run_no {p : UInt8 → Bool} {s : ByteArray} {i : Nat} (h : i < s.size) (hp : p s[i] = false) : runP p s i = i := by
  unfold runP
  rw [drop_at s i h, List.takeWhile_cons_of_neg (by simp [hp])]
  simp
theorem run_end {p : UInt8 → Bool} {s : ByteArray} {i : Nat} (h : s.size ≤ i) : runP p s i = i := by
  unfold runP
  rw [drop_end s i h]
  simp
theorem run_ge (p : UInt8 → Bool) (s : ByteArray) (i : Nat) : i ≤ runP p s i := by unfold runP; omega
theorem run_le {p : UInt8 → Bool} {s : ByteArray} {i : Nat} (h : i ≤ s.size) : runP p s i ≤ s.size := by
  unfold runP
  have h1 := (List.takeWhile_prefix p (l := s.data.toList.drop i)).length_le
  simp only [List.length_drop, Array.length_toList, ByteArray.size_data] at h1
  omega
theorem run_stop {p : UInt8 → Bool} {s : ByteArray} {i : Nat} (h : runP p s i < s.size) : p (s[runP p s i]'h) = false := by
  by_cases hp : p (s[runP p s i]'h) = false
  · exact hp
  · exfalso
    have key : ∀ (l : List UInt8) (hl : (l.takeWhile p).length < l.length), p (l[(l.takeWhile p).length]'hl) = false := by
      intro l
      induction l with
      | nil => intro hl; simp at hl
      | cons a t ih =>
        intro hl
        by_cases ha : p a = true
        · simp only [List.takeWhile_cons_of_pos ha] at hl ⊢
          simpa using ih (by simpa using hl)
        · simp only [List.takeWhile_cons_of_neg ha] at hl ⊢
          simpa using ha
    have hl : ((s.data.toList.drop i).takeWhile p).length < (s.data.toList.drop i).length := by
      simp only [List.length_drop, Array.length_toList, ByteArray.size_data]
      unfold runP at h
      omega
    have := key _ hl
    rw [List.getElem_drop] at this
    exact hp this
theorem run_in {p : UInt8 → Bool} {s : ByteArray} {i k : Nat} (h1 : i ≤ k) (h2 : k < runP p s i) (h : k < s.size) : p (s[k]'h) = true := by
  have hl : k - i < ((s.data.toList.drop i).takeWhile p).length := by unfold runP at h2; omega
  have hm := List.getElem_mem (l := (s.data.toList.drop i).takeWhile p) hl
  have h3 : p ((s.data.toList.drop i).takeWhile p)[k - i] = true := List.all_eq_true.1 List.all_takeWhile _ hm
  have h4 := (List.takeWhile_prefix p (l := s.data.toList.drop i)).getElem hl
  rw [h4, List.getElem_drop] at h3
  have : i + (k - i) = k := by omega
  simp only [this] at h3
  exact h3
theorem there1 (s : ByteArray) (i : Nat) (c : UInt8) (h : i < s.size) : thereB s i [c] = (c == s[i]) := by
  unfold thereB
  rw [drop_at s i h]
  simp [List.isPrefixOf]
theorem there_end (s : ByteArray) (i : Nat) (c : UInt8) (t : List UInt8) (h : s.size ≤ i) : thereB s i (c :: t) = false := by
  unfold thereB
  rw [drop_end s i h]
  simp [List.isPrefixOf]
theorem there_cons (s : ByteArray) (i : Nat) (c : UInt8) (t : List UInt8) (h : i < s.size) : thereB s i (c :: t) = (c == s[i] && thereB s (i + 1) t) := by
  unfold thereB
  rw [drop_at s i h]
  simp [List.isPrefixOf]
theorem there_nil (s : ByteArray) (i : Nat) : thereB s i [] = true := by simp [thereB, List.isPrefixOf]
theorem there_lt {s : ByteArray} {i : Nat} {c : UInt8} {t : List UInt8} (h : thereB s i (c :: t) = true) : i < s.size := by
  by_cases hi : i < s.size
  · exact hi
  · rw [there_end s i c t (by omega)] at h; cases h
theorem there_len {s : ByteArray} {i : Nat} {t : List UInt8} (h : thereB s i t = true) : t.length ≤ s.size - i := by
  have := (List.isPrefixOf_iff_prefix.1 h).length_le
  simpa using this
end L
end Go.Proofs.YtmgemdhpjibdiaaDoor
