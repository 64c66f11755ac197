/- What a reader of lexis is in memory; the walks of its small methods: sees, passes, must, close, equals, slash, blanks, word, find. -/
import Derived.Test.YtmnegpdegfianaaGreatDoorLPlain
import Derived.Test.YtmnegpdegfianaaGreatDoorLShelf
import Derived.Test.YtmnegpdegfianaaGreatDoorEUndo
import Derived.Deep.QuietTactic
import Derived.BigQuiet
namespace Go.Proofs.YtmnegpdegfianaaGreatDoor
open Go.RowKit
def encA (a : L.Attr) : List Value := [.string a.1, .string a.2]
def encL (l : List L.Attr) : List Value := l.flatMap encA
/-- The attributes of a reader at block b lie behind it, in a row of the call's own. -/
def AttrsAt (b : Nat) (v : Value) (l : List L.Attr) (w : World) : Prop := w.ownsRow (b + 1) 143 2 v l.length (encL l)
def rdObj (s : ByteArray) (i : Nat) (k : Int) (p : Nat) (nm tx : ByteArray) (v : Value) : Obj :=
  .cells #[.string s, .int .i64 (i : Int), .int .i64 k, .int .i64 (p : Int), .string nm, .string tx, v] 148 (0, 0)
/-- The world that a call began with, and blocks that stay as they are. -/
structure Base where
  W : World
  K : List (Nat × Obj)
/-- A reader lies at block b of a world that goes back to W0. -/
structure RD (W0 : Base) (b : Nat) (s : ByteArray) (i : Nat) (k : Int) (p : Nat) (nm tx : ByteArray) (v : Value) (l : List L.Attr) (w : World) : Prop where
  tab : Tab W0.W
  low : W0.W.heap.size ≤ b
  bel : Below W0.W.heap.size W0.W w
  obj : w.heap[b]? = some (rdObj s i k p nm tx v)
  row : AttrsAt b v l w
  keep : ∀ c ∈ W0.K, w.heap[c.1]? = some c.2 ∧ c.1 ≠ b ∧ v.ownBlock ≠ some c.1
section
variable {W0 : Base} {b : Nat} {s : ByteArray} {i : Nat} {k : Int} {p : Nat} {nm tx : ByteArray} {v : Value} {l : List L.Attr} {w : World}
theorem RD.lt (h : RD W0 b s i k p nm tx v l w) : b < w.heap.size := lt_of_block h.obj
theorem RD.cell (h : RD W0 b s i k p nm tx v l w) (j : Nat) : w.cell? ⟨b, j, none⟩ = #[Value.string s, .int .i64 (i : Int), .int .i64 k, .int .i64 (p : Int), .string nm, .string tx, v][j]? := cell_of_row w b j _ _ _ h.obj
theorem RD.frozen (h : RD W0 b s i k p nm tx v l w) (j : Nat) : w.frozen? ⟨b, j, none⟩ = false := frozen_of_row w b j _ _ h.obj
theorem RD.tabw (h : RD W0 b s i k p nm tx v l w) : Tab w := h.tab.below h.bel
theorem row_below {e : TypeId} {size n : Nat} {xs : List Value} {base : Nat} {w' : World} (h : w.ownsRow base e size v n xs) (hb : Below w.heap.size w w') : w'.ownsRow base e size v n xs := by
  obtain ⟨h1, h2⟩ := h
  refine ⟨h1, ?_⟩
  rcases h2 with h2 | ⟨g, cap, cur, h3, h4, h5, h6⟩
  · exact Or.inl h2
  · exact Or.inr ⟨g, cap, cur, h3, h4, by rw [hb.block g (lt_of_block h5)]; exact h5, h6⟩
theorem RD.below (h : RD W0 b s i k p nm tx v l w) {w' : World} (hb : Below w.heap.size w w') : RD W0 b s i k p nm tx v l w' :=
  ⟨h.tab, h.low, h.bel.trans (hb.mono (Nat.le_of_lt (Nat.lt_of_le_of_lt h.low h.lt))), by rw [hb.block b h.lt]; exact h.obj, row_below h.row hb,
    fun c hc => ⟨by rw [hb.block c.1 (lt_of_block (h.keep c hc).1)]; exact (h.keep c hc).1, (h.keep c hc).2⟩⟩
/-- A store into a field of the reader. -/
theorem RD.set (h : RD W0 b s i k p nm tx v l w) (j : Nat) (u : Value) {s' : ByteArray} {i' : Nat} {k' : Int} {p' : Nat} {nm' tx' : ByteArray} (e : (#[Value.string s, .int .i64 (i : Int), .int .i64 k, .int .i64 (p : Int), .string nm, .string tx, v].setIfInBounds j u) = #[Value.string s', .int .i64 (i' : Int), .int .i64 k', .int .i64 (p' : Int), .string nm', .string tx', v]) :
    RD W0 b s' i' k' p' nm' tx' v l (w.setCell ⟨b, j, none⟩ u) :=
  ⟨h.tab, h.low, h.bel.setCell (p := ⟨b, j, none⟩) h.low u, by rw [heap_setCell_same w b j _ _ u h.obj, e]; rfl, ownsRow_setCell_below h.row (Nat.lt_succ_self b) u,
    fun c hc => ⟨by rw [heap_setCell_other w ⟨b, j, none⟩ c.1 u (h.keep c hc).2.1]; exact (h.keep c hc).1, (h.keep c hc).2⟩⟩
/-- One more block that stays. -/
theorem RD.guard (h : RD W0 b s i k p nm tx v l w) (c : Nat) (o : Obj) (hc : w.heap[c]? = some o) (h1 : c ≠ b) (h2 : v.ownBlock ≠ some c) : RD ⟨W0.W, (c, o) :: W0.K⟩ b s i k p nm tx v l w :=
  ⟨h.tab, h.low, h.bel, h.obj, h.row, fun x hx => by
    rcases List.mem_cons.1 hx with rfl | hx
    · exact ⟨hc, h1, h2⟩
    · exact h.keep x hx⟩
theorem RD.free {W : World} {x : Nat × Obj} {K : List (Nat × Obj)} (h : RD ⟨W, x :: K⟩ b s i k p nm tx v l w) : RD ⟨W, K⟩ b s i k p nm tx v l w :=
  ⟨h.tab, h.low, h.bel, h.obj, h.row, fun x hx => h.keep x (List.mem_cons_of_mem _ hx)⟩
end

theorem RD.drewN {W0 : Base} {b : Nat} {s : ByteArray} {i : Nat} {k : Int} {p : Nat} {nm tx : ByteArray} {v : Value} {l : List L.Attr} {w : World} (h : RD W0 b s i k p nm tx v l w) (m : Nat) : RD W0 b s i k p nm tx v l (w.drewN m) :=
  ⟨h.tab, h.low, ⟨h.bel.os, h.bel.tape, h.bel.output, h.bel.size, h.bel.block⟩, h.obj, h.row, h.keep⟩
theorem there_eq (s : ByteArray) (i : Nat) (t : ByteArray) : Lib.hasPrefix (s.extract i s.size).data.toList t.data.toList = L.thereB s i t.data.toList := by
  unfold Lib.hasPrefix L.thereB
  rw [drop_eq]

set_option maxRecDepth 100000 in
set_option maxHeartbeats 400000 in
theorem sees_any {W0 : Base} {b : Nat} {s : ByteArray} {i : Nat} {k : Int} {p : Nat} {nm tx : ByteArray} {v : Value} {l : List L.Attr} {w : World} (R : Hid (RD W0 b s i k p nm tx v l w)) (hi : i ≤ s.size) (t : ByteArray) :
    Calls Tryz.prog 157 #[.pointer (some ⟨b, 0, none⟩), .string t] w fun e w' => e = .returned (.bool (L.thereB s i t.data.toList)) ∧ ∃ m, w' = w.drewN m := by
  have c0 := R.out.cell 0
  have c1 := R.out.cell 1
  simp only [List.getElem?_toArray, List.getElem?_cons_zero, List.getElem?_cons_succ] at c0 c1
  go_enter Tryz.func157, Tryz.ntmps157
  go_wp2
  go_quiet (first | (go_at_call 181; refine Calls.quiet_of_same (prefix_any _ _ _)))
  go_wp2
  go_ret
  exact ⟨by rw [there_eq]; rfl, _, rfl⟩

section
variable {W0 : Base} {b : Nat} {s : ByteArray} {i : Nat} {k : Int} {p : Nat} {nm tx : ByteArray} {v : Value} {l : List L.Attr} {w : World}
set_option maxRecDepth 100000 in
set_option maxHeartbeats 400000 in
theorem passes_yes (R : Hid (RD W0 b s i k p nm tx v l w)) (hi : i ≤ s.size) (hz : s.size ≤ 140737488351232) (t : ByteArray) (H : Hid (L.thereB s i t.data.toList = true)) :
    Calls Tryz.prog 122 #[.pointer (some ⟨b, 0, none⟩), .string t] w fun e w' => e = .returned (.bool true) ∧ RD W0 b s (i + t.size) k p nm tx v l w' := by
  have hl : t.size ≤ s.size - i := by simpa using L.there_len H.out
  have HT : Hid (L.thereB s i t.data.toList = true) := H
  clear H
  go_enter Tryz.func122, Tryz.ntmps122
  go_wp2_with fail
  refine (sees_any R hi t).mono ?_
  rintro e w1 ⟨rfl, m, rfl⟩
  rw [HT.out]
  have R1 := hid (R.out.drewN m)
  have c1 := R1.out.cell 1
  have f1 := R1.out.frozen 1
  simp only [List.getElem?_toArray, List.getElem?_cons_zero, List.getElem?_cons_succ] at c1
  go_wp2
  go_ret
  exact ⟨rfl, R1.out.set 1 _ (by go_num)⟩
set_option maxRecDepth 100000 in
set_option maxHeartbeats 400000 in
theorem passes_no (R : Hid (RD W0 b s i k p nm tx v l w)) (hi : i ≤ s.size) (t : ByteArray) (H : Hid (L.thereB s i t.data.toList = false)) :
    Calls Tryz.prog 122 #[.pointer (some ⟨b, 0, none⟩), .string t] w fun e w' => e = .returned (.bool false) ∧ RD W0 b s i k p nm tx v l w' := by
  go_enter Tryz.func122, Tryz.ntmps122
  go_wp2_with fail
  refine (sees_any R hi t).mono ?_
  rintro e w1 ⟨rfl, m, rfl⟩
  rw [H.out]
  have R1 := hid (R.out.drewN m)
  go_wp2
  go_ret
  exact ⟨rfl, R1.out⟩
set_option maxRecDepth 100000 in
set_option maxHeartbeats 400000 in
theorem must_yes (R : Hid (RD W0 b s i k p nm tx v l w)) (hi : i ≤ s.size) (hz : s.size ≤ 140737488351232) (t : ByteArray) (H : Hid (L.thereB s i t.data.toList = true)) :
    Calls Tryz.prog 160 #[.pointer (some ⟨b, 0, none⟩), .string t] w fun e w' => e = .returned (.int .i64 0) ∧ RD W0 b s (i + t.size) k p nm tx v l w' := by
  go_enter Tryz.func160, Tryz.ntmps160
  go_wp2_with fail
  refine (passes_yes R hi hz t H).mono ?_
  rintro e w1 ⟨rfl, R1⟩
  have R2 := hid R1
  clear R1
  go_wp2
  go_ret
  exact ⟨rfl, R2.out⟩
set_option maxRecDepth 100000 in
set_option maxHeartbeats 400000 in
theorem must_no (R : Hid (RD W0 b s i k p nm tx v l w)) (hi : i ≤ s.size) (t : ByteArray) (H : Hid (L.thereB s i t.data.toList = false)) :
    Calls Tryz.prog 160 #[.pointer (some ⟨b, 0, none⟩), .string t] w fun e w' => e = .returned (.int .i64 30) ∧ RD W0 b s i k p nm tx v l w' := by
  go_enter Tryz.func160, Tryz.ntmps160
  go_wp2_with fail
  refine (passes_no R hi t H).mono ?_
  rintro e w1 ⟨rfl, R1⟩
  have R2 := hid R1
  clear R1
  go_wp2
  go_ret
  exact ⟨rfl, R2.out⟩
set_option maxRecDepth 100000 in
set_option maxHeartbeats 400000 in
theorem close_yes (R : Hid (RD W0 b s i k p nm tx v l w)) (hi : i ≤ s.size) (hz : s.size ≤ 140737488351232) (H : Hid (L.thereB s i [62] = true)) :
    Calls Tryz.prog 125 #[.pointer (some ⟨b, 0, none⟩)] w fun e w' => e = .returned (.int .i64 0) ∧ RD W0 b s (i + 1) k p nm tx v l w' := by
  go_enter Tryz.func125, Tryz.ntmps125
  go_wp2_with fail
  refine (must_yes R hi hz ⟨#[62]⟩ H).mono ?_
  rintro e w1 ⟨rfl, R1⟩
  have R2 := hid R1
  clear R1
  go_wp2
  go_ret
  exact ⟨rfl, R2.out⟩
set_option maxRecDepth 100000 in
set_option maxHeartbeats 400000 in
theorem close_no (R : Hid (RD W0 b s i k p nm tx v l w)) (hi : i ≤ s.size) (H : Hid (L.thereB s i [62] = false)) :
    Calls Tryz.prog 125 #[.pointer (some ⟨b, 0, none⟩)] w fun e w' => e = .returned (.int .i64 30) ∧ RD W0 b s i k p nm tx v l w' := by
  go_enter Tryz.func125, Tryz.ntmps125
  go_wp2_with fail
  refine (must_no R hi ⟨#[62]⟩ H).mono ?_
  rintro e w1 ⟨rfl, R1⟩
  have R2 := hid R1
  clear R1
  go_wp2
  go_ret
  exact ⟨rfl, R2.out⟩
set_option maxRecDepth 100000 in
set_option maxHeartbeats 400000 in
theorem equals_yes (R : Hid (RD W0 b s i k p nm tx v l w)) (hi : i ≤ s.size) (hz : s.size ≤ 140737488351232) (H : Hid (L.thereB s i [61] = true)) :
    Calls Tryz.prog 163 #[.pointer (some ⟨b, 0, none⟩)] w fun e w' => e = .returned (.int .i64 0) ∧ RD W0 b s (i + 1) k p nm tx v l w' := by
  go_enter Tryz.func163, Tryz.ntmps163
  go_wp2_with fail
  refine (must_yes R hi hz ⟨#[61]⟩ H).mono ?_
  rintro e w1 ⟨rfl, R1⟩
  have R2 := hid R1
  clear R1
  go_wp2
  go_ret
  exact ⟨rfl, R2.out⟩
set_option maxRecDepth 100000 in
set_option maxHeartbeats 400000 in
theorem equals_no (R : Hid (RD W0 b s i k p nm tx v l w)) (hi : i ≤ s.size) (H : Hid (L.thereB s i [61] = false)) :
    Calls Tryz.prog 163 #[.pointer (some ⟨b, 0, none⟩)] w fun e w' => e = .returned (.int .i64 30) ∧ RD W0 b s i k p nm tx v l w' := by
  go_enter Tryz.func163, Tryz.ntmps163
  go_wp2_with fail
  refine (must_no R hi ⟨#[61]⟩ H).mono ?_
  rintro e w1 ⟨rfl, R1⟩
  have R2 := hid R1
  clear R1
  go_wp2
  go_ret
  exact ⟨rfl, R2.out⟩
set_option maxRecDepth 100000 in
set_option maxHeartbeats 400000 in
theorem slash_yes (R : Hid (RD W0 b s i k p nm tx v l w)) (hi : i ≤ s.size) (hz : s.size ≤ 140737488351232) (H : Hid (L.thereB s i [47, 62] = true)) :
    Calls Tryz.prog 127 #[.pointer (some ⟨b, 0, none⟩)] w fun e w' => e = .returned (.int .i64 0) ∧ RD W0 b s (i + 1) 3 p nm tx v l w' := by
  have HT : Hid (L.thereB s i (ByteArray.mk #[47, 62]).data.toList = true) := H
  clear H
  go_enter Tryz.func127, Tryz.ntmps127
  go_wp2_with fail
  refine (sees_any R hi ⟨#[47, 62]⟩).mono ?_
  rintro e w1 ⟨rfl, m, rfl⟩
  rw [HT.out]
  have R1 := hid (R.out.drewN m)
  have c1 := R1.out.cell 1
  have f1 := R1.out.frozen 1
  have c2 := R1.out.cell 2
  have f2 := R1.out.frozen 2
  simp only [List.getElem?_toArray, List.getElem?_cons_zero, List.getElem?_cons_succ] at c1 c2
  go_wp2
  go_ret
  have R2 := R1.out.set 2 (.int .i64 3) (s' := s) (i' := i) (k' := 3) (p' := p) (nm' := nm) (tx' := tx) rfl
  exact ⟨rfl, R2.set 1 _ (by go_num)⟩
set_option maxRecDepth 100000 in
set_option maxHeartbeats 400000 in
theorem slash_no (R : Hid (RD W0 b s i k p nm tx v l w)) (hi : i ≤ s.size) (H : Hid (L.thereB s i [47, 62] = false)) :
    Calls Tryz.prog 127 #[.pointer (some ⟨b, 0, none⟩)] w fun e w' => e = .returned (.int .i64 0) ∧ RD W0 b s i k p nm tx v l w' := by
  have HT : Hid (L.thereB s i (ByteArray.mk #[47, 62]).data.toList = false) := H
  clear H
  go_enter Tryz.func127, Tryz.ntmps127
  go_wp2_with fail
  refine (sees_any R hi ⟨#[47, 62]⟩).mono ?_
  rintro e w1 ⟨rfl, m, rfl⟩
  rw [HT.out]
  have R1 := hid (R.out.drewN m)
  go_wp2
  go_ret
  exact ⟨rfl, R1.out⟩
end
end Go.Proofs.YtmnegpdegfianaaGreatDoor
