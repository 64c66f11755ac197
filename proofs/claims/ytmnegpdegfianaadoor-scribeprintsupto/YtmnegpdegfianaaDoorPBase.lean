/- What items and attributes in memory are, for a seat without the reader of documents. -/
import Derived.Test.YtmnegpdegfianaaDoorPPlain
import Derived.Test.YtmnegpdegfianaaDoorEText
import Derived.Test.YtmnegpdegfianaaDoorLFacts4
import Derived.Deep.QuietTactic
import Derived.BigQuiet
import Derived.Deep.RegionLaw
import Derived.Deep.AppendLies
import Derived.ArgAppend
namespace Go.Proofs.YtmnegpdegfianaaDoor
open Go.RowKit Go.Shelf
def encA (a : L.Attr) : List Value := [.string a.1, .string a.2]
def encL (l : List L.Attr) : List Value := l.flatMap encA
theorem row_below {v : Value} {w : World} {e : TypeId} {size n : Nat} {xs : List Value} {base : Nat} {w' : World} (h : w.ownsRow base e size v n xs) (hb : Below w.heap.size w w') : w'.ownsRow base e size v n xs := by
  obtain ⟨h1, h2⟩ := h
  refine ⟨h1, ?_⟩
  rcases h2 with h2 | ⟨g, cap, cur, h3, h4, h5, h6⟩
  · exact Or.inl h2
  · exact Or.inr ⟨g, cap, cur, h3, h4, by rw [hb.block g (lt_of_block h5)]; exact h5, h6⟩
theorem str_eq (a b : ByteArray) : (a.toList == b.toList) = decide (a = b) := by
  rw [ByteArray.toList_eq, ByteArray.toList_eq]
  by_cases h : a = b
  · subst h; simp
  · have : a.data ≠ b.data := fun q => h (by cases a; cases b; simp_all)
    simp [h, this]
theorem encL_length (l : List L.Attr) : (encL l).length = l.length * 2 := by
  induction l with
  | nil => rfl
  | cons a l ih => simp only [encL, List.flatMap_cons, List.length_append, List.length_cons] at *; rw [ih]; simp [encA]; omega
theorem encL_snoc (l : List L.Attr) (a : L.Attr) : encL (l ++ [a]) = encL l ++ encA a := by simp [encL]
theorem encL_at : ∀ (l : List L.Attr) (j : Nat) (hj : j < l.length), (encL l)[j * 2]? = some (.string l[j].1) ∧ (encL l)[j * 2 + 1]? = some (.string l[j].2)
  | a :: l, 0, _ => by simp [encL, encA]
  | a :: l, j + 1, hj => by
    have := encL_at l j (by simpa using hj)
    have e1 : (j + 1) * 2 = j * 2 + 1 + 1 := by omega
    simp only [encL, List.flatMap_cons, encA, List.cons_append, List.nil_append, e1, List.getElem?_cons_succ] at *
    simpa using this
abbrev IV := P.Itm × Value
def encI1 (x : IV) : List Value := [.int .i64 x.1.level, .int .i64 x.1.kind, .string x.1.name, .string x.1.text, x.2]
def encI (l : List IV) : List Value := l.flatMap encI1
/-- Items lie in a row of the call's own, and each one's attributes in another. -/
def ItmRow (base : Nat) (V : Value) (l : List IV) (w : World) : Prop :=
  w.ownsRow base 32 5 V l.length (encI l) ∧ ∀ x ∈ l, w.ownsRow base 34 2 x.2 x.1.attrs.length (encL x.1.attrs)
theorem encI_snoc (l : List IV) (x : IV) : encI (l ++ [x]) = encI l ++ encI1 x := by simp [encI]
theorem ItmRow.below {base : Nat} {V : Value} {l : List IV} {w w' : World} (h : ItmRow base V l w) (hb : Below w.heap.size w w') : ItmRow base V l w' := ⟨row_below h.1 hb, fun x hx => row_below (h.2 x hx) hb⟩
def itmV (x : P.Itm) (v : Value) : Value := .agg #[.int .i64 x.level, .int .i64 x.kind, .string x.name, .string x.text, v]
end Go.Proofs.YtmnegpdegfianaaDoor
