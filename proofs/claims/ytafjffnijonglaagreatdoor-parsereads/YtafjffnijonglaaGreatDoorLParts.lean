/- The walk of the reader's parts: which methods read the token. -/
import Derived.Test.YtafjffnijonglaaGreatDoorLAttrs2
namespace Go.Proofs.YtafjffnijonglaaGreatDoor
open Go.RowKit Go.Shelf
abbrev meth (f : Nat) (b : Nat) : Value := .func (.func f) #[.pointer (some ⟨b, 0, none⟩)] #[]
def funcsE (b : Nat) : Obj := .cells #[meth 34 b, meth 35 b, meth 36 b] 58 (0, 0)
def funcsB (b : Nat) : Obj := .cells #[meth 34 b, meth 37 b, meth 38 b, meth 36 b] 58 (0, 0)
def funcsT (b : Nat) : Obj := .cells #[meth 39 b] 58 (0, 0)
theorem size_set (w : World) (a : Addr) (u : Value) : (w.setCell a u).heap.size = w.heap.size := by simp
section
variable {W0 : Base} {b : Nat} {s : ByteArray} {i : Nat} {k : Int} {p : Nat} {nm tx : ByteArray} {v : Value} {l : List L.Attr} {w : World}
theorem RD.fn {W : World} {c : Nat} {o : Obj} {K : List (Nat × Obj)} (R : RD ⟨W, (c, o) :: K⟩ b s i k p nm tx v l w) : w.heap[c]? = some o := (R.keep _ (List.mem_cons_self ..)).1
set_option maxRecDepth 100000 in
set_option maxHeartbeats 1000000 in
theorem parts_end (R : Hid (RD W0 b s i k p nm tx v l w)) (hi : i ≤ s.size) (hz : s.size ≤ 140737488351232) (H : Hid (L.thereB s i [60, 47] = true)) :
    Calls Tryz.prog 20 #[.pointer (some ⟨b, 0, none⟩)] w fun e w' => ∃ c, e = .returned (.slice (some ⟨c, 0, none⟩) 3 3) ∧ RD ⟨W0.W, (c, funcsE b) :: W0.K⟩ b s (i + 2) 2 p nm tx v l w' := by
  go_enter Tryz.func20, Tryz.ntmps20
  go_wp2_with fail
  refine (passes_yes R hi hz ⟨#[60, 47]⟩ H).mono ?_
  rintro e w1 ⟨rfl, R1⟩
  have R2 := hid R1
  clear R1
  have c2 := R2.out.cell 2
  have f2 := R2.out.frozen 2
  simp only [List.getElem?_toArray, List.getElem?_cons_zero, List.getElem?_cons_succ] at c2
  have R3 := hid (R2.out.set 2 (.int .i64 2) (s' := s) (i' := i + 2) (k' := 2) (p' := p) (nm' := nm) (tx' := tx) rfl)
  go_wp2
  go_ret
  exact ⟨_, rfl, by have h := R3.out.guards (funcsE b); rw [size_set] at h; exact h⟩
set_option maxRecDepth 100000 in
set_option maxHeartbeats 1000000 in
theorem parts_beg (R : Hid (RD W0 b s i k p nm tx v l w)) (hi : i ≤ s.size) (hz : s.size ≤ 140737488351232) (H : Hid (L.thereB s i [60, 47] = false)) (H2 : Hid (L.thereB s i [60] = true)) :
    Calls Tryz.prog 20 #[.pointer (some ⟨b, 0, none⟩)] w fun e w' => ∃ c, e = .returned (.slice (some ⟨c, 0, none⟩) 4 4) ∧ RD ⟨W0.W, (c, funcsB b) :: W0.K⟩ b s (i + 1) 1 p nm tx v l w' := by
  go_enter Tryz.func20, Tryz.ntmps20
  go_wp2_with fail
  refine (passes_no R hi ⟨#[60, 47]⟩ H).mono ?_
  rintro e w1 ⟨rfl, R1⟩
  have R1' := hid R1
  clear R1
  go_wp2_with fail
  refine (passes_yes R1' hi hz ⟨#[60]⟩ H2).mono ?_
  rintro e w2 ⟨rfl, R2'⟩
  have R2 := hid R2'
  clear R2'
  have c2 := R2.out.cell 2
  have f2 := R2.out.frozen 2
  simp only [List.getElem?_toArray, List.getElem?_cons_zero, List.getElem?_cons_succ] at c2
  have R3 := hid (R2.out.set 2 (.int .i64 1) (s' := s) (i' := i + 1) (k' := 1) (p' := p) (nm' := nm) (tx' := tx) rfl)
  go_wp2
  go_ret
  exact ⟨_, rfl, by have h := R3.out.guards (funcsB b); rw [size_set] at h; exact h⟩
set_option maxRecDepth 100000 in
set_option maxHeartbeats 1000000 in
theorem parts_txt (R : Hid (RD W0 b s i k p nm tx v l w)) (hi : i ≤ s.size) (H : Hid (L.thereB s i [60, 47] = false)) (H2 : Hid (L.thereB s i [60] = false)) :
    Calls Tryz.prog 20 #[.pointer (some ⟨b, 0, none⟩)] w fun e w' => ∃ c, e = .returned (.slice (some ⟨c, 0, none⟩) 1 1) ∧ RD ⟨W0.W, (c, funcsT b) :: W0.K⟩ b s i 4 p nm tx v l w' := by
  go_enter Tryz.func20, Tryz.ntmps20
  go_wp2_with fail
  refine (passes_no R hi ⟨#[60, 47]⟩ H).mono ?_
  rintro e w1 ⟨rfl, R1⟩
  have R1' := hid R1
  clear R1
  go_wp2_with fail
  refine (passes_no R1' hi ⟨#[60]⟩ H2).mono ?_
  rintro e w2 ⟨rfl, R2'⟩
  have R2 := hid R2'
  clear R2'
  have c2 := R2.out.cell 2
  have f2 := R2.out.frozen 2
  simp only [List.getElem?_toArray, List.getElem?_cons_zero, List.getElem?_cons_succ] at c2
  have R3 := hid (R2.out.set 2 (.int .i64 4) (s' := s) (i' := i) (k' := 4) (p' := p) (nm' := nm) (tx' := tx) rfl)
  go_wp2
  go_ret
  exact ⟨_, rfl, by have h := R3.out.guards (funcsT b); rw [size_set] at h; exact h⟩
end
end Go.Proofs.YtafjffnijonglaaGreatDoor
