/- What the program's tables hold (of ranges, of axes, of tests, of powers of ten); what a reader of pathq is in memory; the walks of its small methods: sees, passes, must. -/
import Derived.Test.YtmgemdhpjibdiaaDoorQPlain
import Derived.Test.YtmgemdhpjibdiaaDoorQShelf
import Derived.Test.YtmgemdhpjibdiaaDoorEUndo
import Derived.Test.YtmgemdhpjibdiaaDoorLFacts2
import Derived.Deep.QuietTactic
import Derived.BigQuiet
import Derived.Deep.AppendLies
import Derived.Maps.AppendAt
namespace Go.Proofs.YtmgemdhpjibdiaaDoor
open Go.RowKit Go.Shelf
theorem gPow : Tryd.prog.globalNamed "internal/strconv.uint64pow10" = some 4 := by kernel_rfl
/-- The tables lie in the package variables' blocks. -/
structure TabQ (w : World) : Prop where
  st : Tab w
  ax : ∀ k, k < 9 → w.cell? ⟨0, k, none⟩ = some (.string (S.bA (Q.axisW k)))
  te : ∀ k, k < 5 → w.cell? ⟨1, k, none⟩ = some (.string (S.bA (Q.testW k)))
  pw : Lib.TabIs Tryd.prog w "internal/strconv.uint64pow10" .u64 Lib.pow10Tab
theorem tabIs_kept {w w' : World} {row : Option Nat} {zs : List Int} (h : Lib.TabIs Tryd.prog w "internal/strconv.uint64pow10" .u64 zs) (hg : w.grownBy w' row) (hr : some 4 ≠ row) : Lib.TabIs Tryd.prog w' "internal/strconv.uint64pow10" .u64 zs := by
  unfold Lib.TabIs World.var? at h ⊢
  rw [gPow] at h ⊢
  simp only [Option.bind_some] at h ⊢
  have hlt : 4 < w.heap.size := by
    rcases Nat.lt_or_ge 4 w.heap.size with h' | h'
    · exact h'
    · rw [Array.getElem?_eq_none h'] at h; cases h
  rw [hg.block _ hlt hr]
  exact h
/-- A row that is none of the tables'. -/
def FarR (row : Option Nat) : Prop := some 0 ≠ row ∧ some 1 ≠ row ∧ some 2 ≠ row ∧ some 4 ≠ row
theorem TabQ.kept {w w' : World} {row : Option Nat} (h : TabQ w) (hg : w.grownBy w' row) (hb : FarR row) : TabQ w' :=
  ⟨⟨Nat.lt_of_lt_of_le h.st.pos hg.size, fun k hk => hg.cell (h.st.use k hk) hb.2.2.1, fun k hk => hg.cell (h.st.low k hk) hb.2.2.1, fun k hk => hg.cell (h.st.high k hk) hb.2.2.1⟩,
    fun k hk => hg.cell (h.ax k hk) hb.1, fun k hk => hg.cell (h.te k hk) hb.2.1, tabIs_kept h.pw hg hb.2.2.2⟩
theorem grown_below {w w' : World} (h : Below w.heap.size w w') (row : Option Nat) : w.grownBy w' row := ⟨h.os, h.tape, h.output, h.size, fun k hk _ => h.block k hk⟩
theorem TabQ.below {w w' : World} (h : TabQ w) (hb : Below w.heap.size w w') : TabQ w' := h.kept (grown_below hb none) ⟨by simp, by simp, by simp, by simp⟩
theorem grown_drewQ (w : World) (n : Nat) (row : Option Nat) : w.grownBy (w.drewN n) row := ⟨rfl, rfl, rfl, Nat.le_refl _, fun _ _ _ => rfl⟩
theorem grown_setQ (w : World) (a : Addr) (u : Value) : w.grownBy (w.setCell a u) (some a.block) :=
  ⟨rfl, rfl, rfl, by simp, fun k _ hk => heap_setCell_other w a k u (fun q => hk (by rw [q]))⟩
theorem TabQ.far {w : World} (h : TabQ w) : FarR (some w.heap.size) := by
  have h1 := World.block_lt_of_cell? w _ (h.ax 0 (by decide))
  have h2 := World.block_lt_of_cell? w _ (h.te 0 (by decide))
  have h3 := h.st.pos
  have h4 : 4 < w.heap.size := by
    have h := h.pw
    unfold Lib.TabIs World.var? at h
    rw [gPow] at h
    simp only [Option.bind_some] at h
    rcases Nat.lt_or_ge 4 w.heap.size with h' | h'
    · exact h'
    · rw [Array.getElem?_eq_none h'] at h; cases h
  have key : ∀ g, g < w.heap.size → some g ≠ some w.heap.size := fun g hg e => by cases e; omega
  exact ⟨key _ h1, key _ h2, key _ h3, key _ h4⟩
def rqObj (q : ByteArray) (i : Nat) (V : Value) : Obj := .cells #[.string q, .int .i64 (i : Int), V] 73 (0, 0)
/-- A reader lies at block b, and since a world w0 nothing else of w0's was written. -/
structure QM (w0 : World) (b : Nat) (q : ByteArray) (i : Nat) (V : Value) (w : World) : Prop where
  tab : TabQ w0
  far : FarR (some b)
  lo : b < w0.heap.size
  gr : w0.grownBy w (some b)
  obj : w.heap[b]? = some (rqObj q i V)
section
variable {w0 : World} {b : Nat} {q : ByteArray} {i : Nat} {V : Value} {w : World}
theorem QM.lt (h : QM w0 b q i V w) : b < w.heap.size := lt_of_block h.obj
theorem QM.cell (h : QM w0 b q i V w) (j : Nat) : w.cell? ⟨b, j, none⟩ = #[Value.string q, .int .i64 (i : Int), V][j]? := cell_of_row w b j _ _ _ h.obj
theorem QM.c0 (h : QM w0 b q i V w) : w.cell? ⟨b, 0, none⟩ = some (.string q) := h.cell 0
theorem QM.c1 (h : QM w0 b q i V w) : w.cell? ⟨b, 1, none⟩ = some (.int .i64 (i : Int)) := h.cell 1
theorem QM.c2 (h : QM w0 b q i V w) : w.cell? ⟨b, 2, none⟩ = some V := h.cell 2
theorem QM.frozen (h : QM w0 b q i V w) (j : Nat) : w.frozen? ⟨b, j, none⟩ = false := frozen_of_row w b j _ _ h.obj
theorem QM.tabw (h : QM w0 b q i V w) : TabQ w := h.tab.kept h.gr h.far
theorem QM.below (h : QM w0 b q i V w) {w' : World} (hb : Below w.heap.size w w') : QM w0 b q i V w' :=
  ⟨h.tab, h.far, h.lo, h.gr.trans (grown_below hb _), by rw [hb.block b h.lt]; exact h.obj⟩
theorem QM.drewN (h : QM w0 b q i V w) (m : Nat) : QM w0 b q i V (w.drewN m) := ⟨h.tab, h.far, h.lo, h.gr.trans (grown_drewQ _ _ _), h.obj⟩
theorem QM.new (h : QM w0 b q i V w) (o : Obj) : QM w0 b q i V (w.alloc o) := h.below ((Below.refl _ _).alloc (Nat.le_refl _) o)
theorem QM.set (h : QM w0 b q i V w) (j : Nat) (u : Value) {i' : Nat} {V' : Value} (e : (#[Value.string q, .int .i64 (i : Int), V].setIfInBounds j u) = #[Value.string q, .int .i64 (i' : Int), V']) : QM w0 b q i' V' (w.setCell ⟨b, j, none⟩ u) :=
  ⟨h.tab, h.far, h.lo, h.gr.trans (grown_setQ w ⟨b, j, none⟩ u), by rw [heap_setCell_same w b j _ _ u h.obj, e]; rfl⟩
/-- The reader as it lies here: from now on. -/
theorem QM.here (h : QM w0 b q i V w) : QM w b q i V w := ⟨h.tabw, h.far, h.lt, World.grownBy.refl _ _, h.obj⟩
theorem QM.since (h : QM w0 b q i V w) {i' : Nat} {V' : Value} {w' : World} (h' : QM w b q i' V' w') : QM w0 b q i' V' w' := ⟨h.tab, h.far, h.lo, h.gr.trans h'.gr, h'.obj⟩

set_option maxRecDepth 100000 in
set_option maxHeartbeats 400000 in
theorem sees_any (R : Hid (QM w0 b q i V w)) (hi : i ≤ q.size) (t : ByteArray) (x : Bool) (H : Hid (L.thereB q i t.data.toList = x)) :
    Calls Tryd.prog 62 #[.pointer (some ⟨b, 0, none⟩), .string t] w fun e w' => e = .returned (.bool x) ∧ ∃ m, w' = w.drewN m := by
  have c0 := R.out.c0
  have c1 := R.out.c1
  have he : Lib.hasPrefix (q.extract i q.size).data.toList t.data.toList = x := by
    rw [← H.out]
    unfold Lib.hasPrefix L.thereB
    rw [drop_eq]
  have HE := hid he
  clear he H
  go_enter Tryd.func62, Tryd.ntmps62
  go_wp2
  go_quiet (first | (go_at_call 91; refine Calls.quiet_of_same (prefix_any _ _ _)))
  go_wp2
  go_ret
  exact ⟨by rw [HE.out]; rfl, _, rfl⟩
set_option maxRecDepth 100000 in
set_option maxHeartbeats 400000 in
theorem passes_yes (R : Hid (QM w0 b q i V w)) (hi : i ≤ q.size) (hz : q.size ≤ 1048576) (t : ByteArray) (H : Hid (L.thereB q i t.data.toList = true)) :
    Calls Tryd.prog 58 #[.pointer (some ⟨b, 0, none⟩), .string t] w fun e w' => e = .returned (.bool true) ∧ QM w0 b q (i + t.size) V w' := by
  have hl : t.size ≤ q.size - i := by simpa using L.there_len H.out
  go_enter Tryd.func58, Tryd.ntmps58
  go_wp2_with fail
  refine (sees_any R hi t _ H).mono ?_
  rintro e w1 ⟨rfl, m, rfl⟩
  have R1 := hid (R.out.drewN m)
  have c1 := R1.out.c1
  have f1 := R1.out.frozen 1
  go_wp2
  go_ret
  exact ⟨rfl, R1.out.set 1 _ (by go_num)⟩
set_option maxRecDepth 100000 in
set_option maxHeartbeats 400000 in
theorem passes_no (R : Hid (QM w0 b q i V w)) (hi : i ≤ q.size) (t : ByteArray) (H : Hid (L.thereB q i t.data.toList = false)) :
    Calls Tryd.prog 58 #[.pointer (some ⟨b, 0, none⟩), .string t] w fun e w' => e = .returned (.bool false) ∧ QM w0 b q i V w' := by
  go_enter Tryd.func58, Tryd.ntmps58
  go_wp2_with fail
  refine (sees_any R hi t _ H).mono ?_
  rintro e w1 ⟨rfl, m, rfl⟩
  have R1 := hid (R.out.drewN m)
  go_wp2
  go_ret
  exact ⟨rfl, R1.out⟩
theorem passes_any (R : Hid (QM w0 b q i V w)) (hi : i ≤ q.size) (hz : q.size ≤ 1048576) (t : ByteArray) (x : Bool) (H : Hid (L.thereB q i t.data.toList = x)) :
    Calls Tryd.prog 58 #[.pointer (some ⟨b, 0, none⟩), .string t] w fun e w' => e = .returned (.bool x) ∧ QM w0 b q (if x = true then i + t.size else i) V w' := by
  cases x
  · simpa using passes_no R hi t H
  · simpa using passes_yes R hi hz t H
set_option maxRecDepth 100000 in
set_option maxHeartbeats 400000 in
theorem must_yes (R : Hid (QM w0 b q i V w)) (hi : i ≤ q.size) (hz : q.size ≤ 1048576) (t : ByteArray) (H : Hid (L.thereB q i t.data.toList = true)) :
    Calls Tryd.prog 96 #[.pointer (some ⟨b, 0, none⟩), .string t] w fun e w' => e = .returned (.int .i64 0) ∧ QM w0 b q (i + t.size) V w' := by
  go_enter Tryd.func96, Tryd.ntmps96
  go_wp2_with fail
  refine (passes_yes R hi hz t H).mono ?_
  rintro e w1 ⟨rfl, R1⟩
  have R2 := hid R1
  clear R1
  go_wp2
  go_ret
  exact ⟨rfl, R2.out⟩
set_option maxRecDepth 100000 in
set_option maxHeartbeats 400000 in
theorem must_no (R : Hid (QM w0 b q i V w)) (hi : i ≤ q.size) (t : ByteArray) (H : Hid (L.thereB q i t.data.toList = false)) :
    Calls Tryd.prog 96 #[.pointer (some ⟨b, 0, none⟩), .string t] w fun e w' => e = .returned (.int .i64 70) ∧ QM w0 b q i V w' := by
  go_enter Tryd.func96, Tryd.ntmps96
  go_wp2_with fail
  refine (passes_no R hi t H).mono ?_
  rintro e w1 ⟨rfl, R1⟩
  have R2 := hid R1
  clear R1
  go_wp2
  go_ret
  exact ⟨rfl, R2.out⟩
end
end Go.Proofs.YtmgemdhpjibdiaaDoor
