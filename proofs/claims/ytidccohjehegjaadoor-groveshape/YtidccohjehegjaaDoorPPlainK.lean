/- Plain mathematics for layer parse: items, what is open, what a token makes of them, what is amiss with a row of items, where an item ends and in what it is. No program is spoken of here. -/
import Derived.Test.YtidccohjehegjaaDoorK1
namespace Go.Proofs.YtidccohjehegjaaDoor
namespace P
open L G
structure Itm where
  level : Int
  kind : Int
  name : ByteArray
  text : ByteArray
  attrs : List L.Attr
def itemOf (n : Nat) (t : Tok) : Itm := if t.kind = 4 then ⟨n, 2, noB, t.text, []⟩ else ⟨n, 1, t.name, noB, t.attrs⟩
/-- What is amiss with an item that is to be added, by how many there are. -/
def addE (m : Nat) (x : Itm) : Int := if x.level = 0 ∧ (m ≠ 0 ∨ x.kind = 2) then 40 else if 40 ≤ x.level then 42 else if 1000 ≤ m then 43 else 0
def closesB (op : List ByteArray) (n : ByteArray) : Bool := decide (op.getLast? = some n)
/-- What a token makes of the items so far, and of what is open. -/
def takeP (its : List Itm) (op : List ByteArray) (t : Tok) : Except Int (List Itm × List ByteArray) :=
  if t.kind = 2 then (if closesB op t.name = true then .ok (its, op.dropLast) else .error 41)
  else if addE its.length (itemOf op.length t) ≠ 0 then .error (addE its.length (itemOf op.length t))
  else .ok (its ++ [itemOf op.length t], if t.kind = 1 then op ++ [t.name] else op)
def wholeE (its : List Itm) (op : List ByteArray) : Int := if its = [] then 40 else if op ≠ [] then 41 else 0
def parseF : Nat → ByteArray → Nat → List Itm → List ByteArray → Except Bad (List Itm)
  | 0, _, _, its, _ => .ok its
  | f + 1, s, i, its, op => if s.size ≤ i then (if its.length = 0 then .error ((s.size : Int), 40) else if op.length ≠ 0 then .error ((s.size : Int), 41) else .ok its) else match oneN s i with
    | .error e => .error e
    | .ok (t, n) => match takeP its op t with
      | .error e => .error ((t.pos : Int), e)
      | .ok (its', op') => parseF f s n its' op'
/-- The document that a text is; or the place of what is amiss first, and how. -/
def parseP (s : ByteArray) : Except Bad (List Itm) := parseF (s.size + 1) s 0 [] []
theorem parse_end {f : Nat} {s : ByteArray} {i : Nat} {its : List Itm} {op : List ByteArray} (hf : 0 < f) (h : s.size ≤ i) :
    parseF f s i its op = (if its.length = 0 then .error ((s.size : Int), 40) else if op.length ≠ 0 then .error ((s.size : Int), 41) else .ok its) := by
  obtain ⟨f, rfl⟩ : ∃ g, f = g + 1 := ⟨f - 1, by omega⟩
  rw [parseF, if_pos h]
theorem parse_bad {f : Nat} {s : ByteArray} {i : Nat} {its : List Itm} {op : List ByteArray} {e : Bad} (hf : 0 < f) (h : i < s.size) (ho : oneN s i = .error e) : parseF f s i its op = .error e := by
  obtain ⟨f, rfl⟩ : ∃ g, f = g + 1 := ⟨f - 1, by omega⟩
  rw [parseF, if_neg (by omega), ho]
theorem parse_no {f : Nat} {s : ByteArray} {i : Nat} {its : List Itm} {op : List ByteArray} {t : Tok} {n : Nat} {e : Int} (hf : 0 < f) (h : i < s.size) (ho : oneN s i = .ok (t, n)) (ht : takeP its op t = .error e) : parseF f s i its op = .error ((t.pos : Int), e) := by
  obtain ⟨f, rfl⟩ : ∃ g, f = g + 1 := ⟨f - 1, by omega⟩
  rw [parseF, if_neg (by omega), ho]
  simp only [ht]
theorem parse_next {f : Nat} {s : ByteArray} {i : Nat} {its its' : List Itm} {op op' : List ByteArray} {t : Tok} {n : Nat} (hf : 0 < f) (h : i < s.size) (ho : oneN s i = .ok (t, n)) (ht : takeP its op t = .ok (its', op')) : parseF f s i its op = parseF (f - 1) s n its' op' := by
  obtain ⟨f, rfl⟩ : ∃ g, f = g + 1 := ⟨f - 1, by omega⟩
  rw [parseF, if_neg (by omega), ho]
  simp only [ht, Nat.add_sub_cancel]
theorem take_len {its its' : List Itm} {op op' : List ByteArray} {t : Tok} (h : takeP its op t = .ok (its', op')) : its'.length ≤ its.length + 1 ∧ op'.length ≤ op.length + 1 := by
  unfold takeP at h
  split at h
  · split at h
    · simp only [Except.ok.injEq, Prod.mk.injEq] at h
      obtain ⟨rfl, rfl⟩ := h
      simp only [List.length_dropLast]
      omega
    · cases h
  · split at h
    · cases h
    · simp only [Except.ok.injEq, Prod.mk.injEq] at h
      obtain ⟨rfl, rfl⟩ := h
      refine ⟨by simp, ?_⟩
      split
      · simp
      · omega
/-- An error that is told is none of 0. -/
theorem take_err {its : List Itm} {op : List ByteArray} {t : Tok} {e : Int} (h : takeP its op t = .error e) : e ≠ 0 := by
  unfold takeP at h
  split at h
  · split at h
    · cases h
    · simp only [Except.error.injEq] at h
      omega
  · split at h
    · rename_i h1
      simp only [Except.error.injEq] at h
      rw [← h]
      exact h1
    · cases h

def unfitE (b : ByteArray) : Int := if countZ b.data.toList < 0 then 64 else if 1500 < b.size then 67 else 0
/-- Do attributes have names that rise? -/
def riseF (prev : ByteArray) : List L.Attr → Bool
  | [] => true
  | a :: l => nameP a.1 && ltB prev a.1 && riseF a.1 l
def valsE : List L.Attr → Int
  | [] => 0
  | a :: l => if unfitE a.2 ≠ 0 then unfitE a.2 else valsE l
def partsE (x : Itm) : Int :=
  if x.kind = 2 then (if x.name ≠ noB ∨ x.attrs ≠ [] then 68 else unfitE x.text)
  else if x.kind ≠ 1 ∨ x.text ≠ noB then 68
  else if nameP x.name = false ∨ riseF noB x.attrs = false then 63
  else if 20 < x.attrs.length then 67
  else valsE x.attrs
/-- Does an item stand where one may, by the one ahead of it? -/
def standsB (prev : Option Itm) (x : Itm) : Bool := match prev with
  | none => decide (x.level = 0) && decide (x.kind = 1)
  | some p => decide (1 ≤ x.level) && decide (x.level ≤ p.level + (if p.kind = 1 then 1 else 0))
def placeE (prev : Option Itm) (k : Nat) (x : Itm) : Int := if standsB prev x = false then 69 else if 40 ≤ x.level then 42 else if 1000 ≤ k then 43 else 0
def itemE (prev : Option Itm) (k : Nat) (x : Itm) : Int := if placeE prev k x ≠ 0 then placeE prev k x else partsE x
def checkF (prev : Option Itm) (k : Nat) : List Itm → Int × Int
  | [] => (0, 0)
  | x :: l => if itemE prev k x ≠ 0 then ((k : Int), itemE prev k x) else checkF (some x) (k + 1) l
def checkP (l : List Itm) : Int × Int := if l = [] then (0, 40) else checkF none 0 l
theorem item_ok {prev : Option Itm} {k : Nat} {x : Itm} (h : itemE prev k x = 0) : standsB prev x = true ∧ x.level < 40 ∧ k < 1000 ∧ partsE x = 0 := by
  unfold itemE at h
  split at h
  · rename_i h1
    exact absurd h h1
  · rename_i h1
    have h2 : placeE prev k x = 0 := by simpa using h1
    unfold placeE at h2
    split at h2
    · simp at h2
    · rename_i h3
      split at h2
      · simp at h2
      · split at h2
        · simp at h2
        · exact ⟨by simpa using h3, by omega, by omega, h⟩
theorem item_mk {prev : Option Itm} {k : Nat} {x : Itm} (h1 : standsB prev x = true) (h2 : x.level < 40) (h3 : k < 1000) (h4 : partsE x = 0) : itemE prev k x = 0 := by
  have hp : placeE prev k x = 0 := by
    unfold placeE
    rw [if_neg (by simp [h1]), if_neg (by omega), if_neg (by omega)]
  unfold itemE
  rw [if_neg (by simp [hp]), h4]
theorem parts_kind {x : Itm} (h : partsE x = 0) : x.kind = 1 ∨ x.kind = 2 := by
  unfold partsE at h
  split at h
  · exact Or.inr ‹_›
  · split at h
    · simp at h
    · rename_i h1
      exact Or.inl (by by_cases h2 : x.kind = 1; exact h2; exact absurd (Or.inl h2) h1)
/-- The last one of a row, if there is one; else what was ahead of it. -/
def lastO (prev : Option Itm) (l : List Itm) : Option Itm := match l.getLast? with | some x => some x | none => prev
theorem check_snoc : ∀ (l : List Itm) (prev : Option Itm) (k : Nat) (x : Itm), checkF prev k l = (0, 0) → itemE (lastO prev l) (k + l.length) x = 0 → checkF prev k (l ++ [x]) = (0, 0)
  | [], prev, k, x, _, h => by
    have h' : itemE prev k x = 0 := by simpa [lastO] using h
    simp [checkF, h']
  | a :: l, prev, k, x, h0, h => by
    have ha : itemE prev k a = 0 := by
      unfold checkF at h0
      split at h0
      · rename_i h1
        simp only [Prod.mk.injEq] at h0
        exact absurd h0.2 h1
      · rename_i h1
        simpa using h1
    have h0' : checkF (some a) (k + 1) l = (0, 0) := by
      unfold checkF at h0
      rwa [if_neg (by simp [ha])] at h0
    rw [List.cons_append, checkF, if_neg (by simp [ha])]
    refine check_snoc l (some a) (k + 1) x h0' ?_
    have e1 : lastO (some a) l = lastO prev (a :: l) := by
      unfold lastO
      cases l with
      | nil => rfl
      | cons b l => simp [List.getLast?_cons_cons]; cases h : (b :: l).getLast? with
        | none => simp at h
        | some y => rfl
    rw [e1, show k + 1 + l.length = k + (a :: l).length by simp; omega]
    exact h

def endN (l : List Itm) (k : Nat) (z : Int) : Nat := k + 1 + ((l.drop (k + 1)).takeWhile fun x => decide (z < x.level)).length
/-- The last one of the first ones of a row whose level is less. -/
def downF (l : List Itm) (z : Int) : Nat → Int
  | 0 => -1
  | p + 1 => match l[p]? with
    | none => -1
    | some x => if x.level < z then (p : Int) else downF l z p
theorem down_yes {l : List Itm} {z : Int} {p : Nat} (h : p < l.length) (hz : l[p].level < z) : downF l z (p + 1) = (p : Int) := by
  rw [downF, List.getElem?_eq_getElem h]
  simp only
  rw [if_pos hz]
theorem down_no {l : List Itm} {z : Int} {p : Nat} (h : p < l.length) (hz : ¬ l[p].level < z) : downF l z (p + 1) = downF l z p := by
  rw [downF, List.getElem?_eq_getElem h]
  simp only
  rw [if_neg hz]
def endP (l : List Itm) (k : Int) : Int := if h : 0 ≤ k ∧ k < l.length then (endN l k.toNat (l[k.toNat]'(by omega)).level : Int) else 0
def parentP (l : List Itm) (k : Int) : Int := if h : 0 ≤ k ∧ k < l.length then downF l (l[k.toNat]'(by omega)).level k.toNat else -1
end P
end Go.Proofs.YtidccohjehegjaaDoor
