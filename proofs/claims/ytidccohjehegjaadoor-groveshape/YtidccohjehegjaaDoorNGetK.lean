/- The walk of grove's Get. -/
import Derived.Test.YtidccohjehegjaaDoorNSetAttrK
import Derived.Laws.ResultCell
namespace Go.Proofs.YtidccohjehegjaaDoor
open Go.RowKit Go.Shelf
namespace N
open T
section
variable {B tb mb : Nat} {f : F} {nx : Int} {L : List NS} {w : World}
set_option maxRecDepth 100000 in
set_option maxHeartbeats 4000000 in
theorem get_ok (h : Hid (TreeIn B tb mb f nx L w)) (id : Int) (hw : wfI id) (e : Nd) (s : Slot) (hm : Hid ((e, s) ∈ L)) (hl : Hid (look (idg L) id = some s.g)) (HXL : Hid (e.x.attrs.length ≤ 100000)) :
    Calls Tryd.prog 15 #[.pointer (some ⟨tb, 0, none⟩), .int .i64 id] w fun q w' => ∃ V, q = .returned (.tuple #[.agg #[.int .i64 e.id, .int .i64 e.par, .int .i64 e.x.kind, .int .i64 (e.kids.length : Int), .string e.x.name, .string e.x.text, V], .bool true]) ∧ w'.ownsRow w.heap.size 79 2 V e.x.attrs.length (encL e.x.attrs) ∧ Below w.heap.size w w' := by
  have W1 := (Below.refl w.heap.size w).alloc (Nat.le_refl _) (.cells #[.int .i64 0, .int .i64 0, .int .i64 0, .int .i64 0, .string ⟨#[]⟩, .string ⟨#[]⟩, .slice none 0 0] 40)
  have hR := heap_alloc_new w (.cells #[.int .i64 0, .int .i64 0, .int .i64 0, .int .i64 0, .string ⟨#[]⟩, .string ⟨#[]⟩, .slice none 0 0] 40)
  obtain ⟨wb, hwb⟩ : ∃ wb, w.alloc (.cells #[.int .i64 0, .int .i64 0, .int .i64 0, .int .i64 0, .string ⟨#[]⟩, .string ⟨#[]⟩, .slice none 0 0] 40) = wb := ⟨_, rfl⟩
  have hwbs : wb.heap.size = w.heap.size + 1 := by rw [← hwb]; simp
  rw [hwb] at W1 hR
  have T1 := h.out.below W1
  obtain ⟨c0, _⟩ := T1.cells
  have hg := T1.hit hw hl.out
  have hn := T1.graph.nodes _ hm.out
  have hgl := lt_of_block (h.out.graph.nodes _ hm.out).cell
  obtain ⟨d0, d1, d2, d3, d4, d5, d6, d7⟩ := hn.cells
  obtain ⟨aa, ac, hav⟩ := slice_of hn.attrs
  obtain ⟨ka, kc, hkv⟩ := kv_form hn
  dsimp only at d0 d1 d2 d3 d4 d5 d6 d7 hav hkv hgl
  rw [hav] at d6
  rw [hkv] at d7
  obtain ⟨ob, HOB⟩ : ∃ ob, Hid (ob = Obj.cells #[.int .i64 e.id, .int .i64 e.par, .int .i64 e.x.kind, .int .i64 0, .string e.x.name, .string e.x.text, .slice aa e.x.attrs.length ac] 40) := ⟨_, hid rfl⟩
  have HN := hid hn
  have HAV := hid hav
  have HKV := hid hkv
  have HR := hid hR
  have HT1 := hid T1
  have HW1 := hid W1
  clear hn hav hkv hR T1 W1
  go_enter Tryd.func15, Tryd.ntmps15
  go_wp2_with fail
  rw [← HOB.out]
  have hA2 : Below wb.heap.size wb (wb.alloc ob) := (Below.refl wb.heap.size wb).alloc (Nat.le_refl _) ob
  have hN2 : (wb.alloc ob).heap[wb.heap.size]? = some ob := by rw [HOB.out]; exact heap_alloc_new wb _
  obtain ⟨wc, hwc⟩ : ∃ wc, wb.alloc ob = wc := ⟨_, rfl⟩
  have hwcs : wc.heap.size = w.heap.size + 1 + 1 := by rw [← hwc]; simp [hwbs]
  rw [hwc] at hA2 hN2 ⊢
  rw [hwbs] at hN2
  have T2 := HT1.out.below hA2
  have hn2 := T2.graph.nodes _ hm.out
  have s6 := hn2.cells.2.2.2.2.2.2.1
  have s7 := hn2.cells.2.2.2.2.2.2.2
  dsimp only at s6 s7
  rw [HAV.out] at s6
  rw [HKV.out] at s7
  have HS0 : Hid (wc.drew.cell? ⟨s.g, 6, none⟩ = some (.slice aa e.x.attrs.length ac) ∧ wc.drew.cell? ⟨s.g, 7, none⟩ = some (.slice ka e.kids.length kc)) := hid ⟨s6, s7⟩
  have hN3 := hN2
  rw [HOB.out] at hN3
  have HN3 := hid hN3
  have HA2 := hid hA2
  have HAT : Hid (AttrsIn (.slice aa e.x.attrs.length ac) e.x.attrs wc.drew) := hid (by
    have q := hn2.attrs
    dsimp only at q
    rw [HAV.out] at q
    exact attrs_in (show wc.drew.ownsRow B 79 2 _ _ _ from q))
  have hR2 : wc.heap[w.heap.size]? = wb.heap[w.heap.size]? := hA2.block _ (by omega)
  have HR2 := hid (hR2.trans HR.out)
  have hxs := HXL.out
  clear hn2 s6 s7 hN2 hN3 T2 hA2 hwc hR2 d0 d1 d2 d3 d4 d5 d6 d7 c0 hg
  refine till_begin (z := 14) (S := fun w' => w'.cell? ⟨s.g, 6, none⟩ = some (.slice aa e.x.attrs.length ac) ∧ w'.cell? ⟨s.g, 7, none⟩ = some (.slice ka e.kids.length kc)) (by kernel_rfl) ?_
  refine till_free (i := 0) (v := ?_) rfl (by kernel_rfl) (by kernel_rfl) (by kernel_rfl) (by kernel_rfl) (fun _ _ _ h => h) (Or.inl ⟨by rfl, ?_⟩) HS0.out ?_
  rotate_left
  · intro w' hs; go_simp; (try with_reducible rfl)
  refine till_free (i := 1) (v := ?_) rfl (by kernel_rfl) (by kernel_rfl) (by kernel_rfl) (by kernel_rfl) (fun _ _ _ h => h) (Or.inl ⟨by rfl, ?_⟩) HS0.out ?_
  rotate_left
  · intro w' hs; go_simp; (try with_reducible rfl)
  refine till_free (i := 2) (v := ?_) rfl (by kernel_rfl) (by kernel_rfl) (by kernel_rfl) (by kernel_rfl) (fun _ _ _ h => h) (Or.inl ⟨by rfl, ?_⟩) HS0.out ?_
  rotate_left
  · intro w' hs; go_simp; (try with_reducible rfl)
  refine till_via [4, 12, 14] (i := 3) (v := ?_) rfl (by kernel_rfl) (by kernel_rfl) (by kernel_rfl) (by kernel_rfl) (fun _ _ _ h => h) (Or.inl ⟨by rfl, ?_⟩) HS0.out ?_
  rotate_left
  · intro w' hs; obtain ⟨s6, s7⟩ := hs; go_simp; (try with_reducible rfl)
  refine till_free (i := 4) (v := ?_) rfl (by kernel_rfl) (by kernel_rfl) (by kernel_rfl) (by kernel_rfl) (fun _ _ _ h => h) (Or.inl ⟨by rfl, ?_⟩) HS0.out ?_
  rotate_left
  · intro w' hs; go_simp; (try with_reducible rfl)
  refine till_free (i := 5) (v := ?_) rfl (by kernel_rfl) (by kernel_rfl) (by kernel_rfl) (by kernel_rfl) (fun _ _ _ h => h) (Or.inl ⟨by rfl, ?_⟩) HS0.out ?_
  rotate_left
  · intro w' hs; go_simp; (try with_reducible rfl)
  refine till_free (i := 6) (v := ?_) rfl (by kernel_rfl) (by kernel_rfl) (by kernel_rfl) (by kernel_rfl) (fun _ _ _ h => h) (Or.inl ⟨by rfl, ?_⟩) HS0.out ?_
  rotate_left
  · intro w' hs; go_simp; (try with_reducible rfl)
  refine till_free (i := 7) (v := ?_) rfl (by kernel_rfl) (by kernel_rfl) (by kernel_rfl) (by kernel_rfl) (fun _ _ _ h => h) (Or.inl ⟨by rfl, ?_⟩) HS0.out ?_
  rotate_left
  · intro w' hs; go_simp; (try with_reducible rfl)
  refine till_free (i := 8) (v := ?_) rfl (by kernel_rfl) (by kernel_rfl) (by kernel_rfl) (by kernel_rfl) (fun _ _ _ h => h) (Or.inl ⟨by rfl, ?_⟩) HS0.out ?_
  rotate_left
  · intro w' hs; go_simp; (try with_reducible rfl)
  refine till_via [10, 14] (i := 9) (v := ?_) rfl (by kernel_rfl) (by kernel_rfl) (by kernel_rfl) (by kernel_rfl) (fun _ _ _ h => h) (Or.inl ⟨by rfl, ?_⟩) HS0.out ?_
  rotate_left
  · intro w' hs; obtain ⟨s6, s7⟩ := hs; go_simp; (try with_reducible rfl)
  refine till_free (i := 11) (v := ?_) rfl (by kernel_rfl) (by kernel_rfl) (by kernel_rfl) (by kernel_rfl) (fun _ _ _ h => h) (Or.inl ⟨by rfl, ?_⟩) HS0.out ?_
  rotate_left
  · intro w' hs; go_simp; (try with_reducible rfl)
  refine till_call (i := 10) (by kernel_rfl) rfl rfl 29 _ _ rfl (enters_of Tryd.func29 (by kernel_rfl) rfl) #[.slice aa e.x.attrs.length ac] (by kernel_rfl) (fun v' w' => w'.ownsRow wc.drew.heap.size 79 2 v' e.x.attrs.length (encL e.x.attrs) ∧ Below wc.drew.heap.size wc.drew w') (own_any _ e.x.attrs wc.drew HAT (by omega)) ?_
  rintro v' w2 ⟨hva, hb2⟩
  have HVA := hid hva
  have HBB := hid hb2
  have hgl2 : s.g < wc.drew.heap.size := by show s.g < wc.heap.size; omega
  have HS1 : Hid (w2.cell? ⟨s.g, 6, none⟩ = some (.slice aa e.x.attrs.length ac) ∧ w2.cell? ⟨s.g, 7, none⟩ = some (.slice ka e.kids.length kc)) := hid ⟨(World.cell?_of_block (hb2.block s.g hgl2)).trans HS0.out.1, (World.cell?_of_block (hb2.block s.g hgl2)).trans HS0.out.2⟩
  have hN4 : w2.heap[w.heap.size + 1]? = some (.cells #[.int .i64 e.id, .int .i64 e.par, .int .i64 e.x.kind, .int .i64 0, .string e.x.name, .string e.x.text, .slice aa e.x.attrs.length ac] 40 (0, 0)) := (hb2.block _ (show w.heap.size + 1 < wc.heap.size by omega)).trans HN3.out
  have hR4 := (hb2.block w.heap.size (show w.heap.size < wc.heap.size by omega)).trans HR2.out
  have HN4 := hid hN4
  have HR4 := hid hR4
  clear hva hb2 hN4 hR4
  refine ⟨HS1.out, ?_⟩
  refine till_store (i := 12) (by kernel_rfl) rfl rfl 3 (.tmp 32) (.tmp 25) rfl (.pointer (some ⟨w.heap.size + 1, 3, none⟩)) (.int .i64 (e.kids.length : Int)) ?_ ?_ (w' := w2.setCell ⟨w.heap.size + 1, 3, none⟩ (.int .i64 (e.kids.length : Int))) ?_ (fun _ => ?_) ?_
  · kernel_rfl
  · kernel_rfl
  · have e1 : w2.cell? ⟨w.heap.size + 1, 3, none⟩ = some (.int .i64 0) := by rw [Lib.cell_of_heap HN4.out]; rfl
    have e2 : w2.frozen? ⟨w.heap.size + 1, 3, none⟩ = false := Lib.frozen_of_heap HN4.out 3
    simp [Instr.storeAt, go_sem, e1, e2]
  · have hne : s.g ≠ w.heap.size + 1 := by omega
    exact ⟨(World.cell?_of_block (Below.heap_setCell _ _ _ _ hne)).trans HS1.out.1, (World.cell?_of_block (Below.heap_setCell _ _ _ _ hne)).trans HS1.out.2⟩
  obtain ⟨va, vc, rfl⟩ := slice_of HVA.out
  have hC3 : (w2.setCell ⟨w.heap.size + 1, 3, none⟩ (.int .i64 (e.kids.length : Int))).heap[w.heap.size + 1]? = some (.cells #[.int .i64 e.id, .int .i64 e.par, .int .i64 e.x.kind, .int .i64 (e.kids.length : Int), .string e.x.name, .string e.x.text, .slice aa e.x.attrs.length ac] 40 (0, 0)) := heap_setCell_same _ _ _ _ _ _ HN4.out
  have hne : s.g ≠ w.heap.size + 1 := by omega
  have HS3 : Hid ((w2.setCell ⟨w.heap.size + 1, 3, none⟩ (.int .i64 (e.kids.length : Int))).cell? ⟨s.g, 6, none⟩ = some (.slice aa e.x.attrs.length ac) ∧ (w2.setCell ⟨w.heap.size + 1, 3, none⟩ (.int .i64 (e.kids.length : Int))).cell? ⟨s.g, 7, none⟩ = some (.slice ka e.kids.length kc)) := hid ⟨(World.cell?_of_block (Below.heap_setCell _ _ _ _ hne)).trans HS1.out.1, (World.cell?_of_block (Below.heap_setCell _ _ _ _ hne)).trans HS1.out.2⟩
  have hR5 : (w2.setCell ⟨w.heap.size + 1, 3, none⟩ (.int .i64 (e.kids.length : Int))).heap[w.heap.size]? = _ := (Below.heap_setCell w2 ⟨w.heap.size + 1, 3, none⟩ (.int .i64 (e.kids.length : Int)) w.heap.size (by simp)).trans HR4.out
  have hb5 : Below (w.heap.size + 1) wb (w2.setCell ⟨w.heap.size + 1, 3, none⟩ (.int .i64 (e.kids.length : Int))) := by
    have y1 := HA2.out
    have y2 := HBB.out
    have y3 : Below (w.heap.size + 1) wb w2 := (y1.mono (by omega)).trans (Below.mono (show Below wc.heap.size wc w2 from ⟨y2.os, y2.tape, y2.output, y2.size, y2.block⟩) (by omega))
    exact y3.setCell (p := ⟨w.heap.size + 1, 3, none⟩) (Nat.le_refl _) _
  have hva5 : (w2.setCell ⟨w.heap.size + 1, 3, none⟩ (.int .i64 (e.kids.length : Int))).ownsRow wc.drew.heap.size 79 2 (.slice va e.x.attrs.length vc) e.x.attrs.length (encL e.x.attrs) := own_same HVA.out (fun b hb => Below.heap_setCell _ _ _ _ (by
    have h1 := (own_lt HVA.out hb).1
    have h2 : wc.drew.heap.size = wc.heap.size := rfl
    show b ≠ w.heap.size + 1
    omega))
  obtain ⟨w5, hw5⟩ : ∃ w5, w2.setCell ⟨w.heap.size + 1, 3, none⟩ (.int .i64 (e.kids.length : Int)) = w5 := ⟨_, rfl⟩
  rw [hw5] at hC3 HS3 hR5 hb5 hva5 ⊢
  have HC3 := hid hC3
  have HR5 := hid hR5
  have HB5 := hid hb5
  have HV5 := hid hva5
  clear hC3 hR5 hb5 hva5 hw5
  refine till_free (i := 13) (v := ?_) rfl (by kernel_rfl) (by kernel_rfl) (by kernel_rfl) (by kernel_rfl) (fun _ _ _ h => h) (Or.inl ⟨by rfl, ?_⟩) HS3.out ?_
  rotate_left
  · intro w' hs; go_simp; (try with_reducible rfl)
  refine till_store (i := 14) (by kernel_rfl) rfl rfl 38 (.tmp 33) (.tmp 31) rfl (.pointer (some ⟨w.heap.size + 1, 6, none⟩)) (.slice va e.x.attrs.length vc) ?_ ?_ (w' := w5.setCell ⟨w.heap.size + 1, 6, none⟩ (.slice va e.x.attrs.length vc)) ?_ (fun h => absurd rfl h) ?_
  · kernel_rfl
  · kernel_rfl
  · have e1 : w5.cell? ⟨w.heap.size + 1, 6, none⟩ = some (.slice aa e.x.attrs.length ac) := by rw [Lib.cell_of_heap HC3.out]; rfl
    have e2 : w5.frozen? ⟨w.heap.size + 1, 6, none⟩ = false := Lib.frozen_of_heap HC3.out 6
    simp [Instr.storeAt, go_sem, e1, e2]
  refine till_done (by kernel_rfl) ?_ _
  have hC6 : (w5.setCell ⟨w.heap.size + 1, 6, none⟩ (.slice va e.x.attrs.length vc)).heap[w.heap.size + 1]? = some (.cells #[.int .i64 e.id, .int .i64 e.par, .int .i64 e.x.kind, .int .i64 (e.kids.length : Int), .string e.x.name, .string e.x.text, .slice va e.x.attrs.length vc] 40 (0, 0)) := heap_setCell_same _ _ _ _ _ _ HC3.out
  have hR6 := (Below.heap_setCell w5 ⟨w.heap.size + 1, 6, none⟩ (.slice va e.x.attrs.length vc) w.heap.size (by simp)).trans HR5.out
  have hb6 : Below (w.heap.size + 1) wb (w5.setCell ⟨w.heap.size + 1, 6, none⟩ (.slice va e.x.attrs.length vc)) := HB5.out.setCell (p := ⟨w.heap.size + 1, 6, none⟩) (Nat.le_refl _) _
  have hva6 : (w5.setCell ⟨w.heap.size + 1, 6, none⟩ (.slice va e.x.attrs.length vc)).ownsRow wc.drew.heap.size 79 2 (.slice va e.x.attrs.length vc) e.x.attrs.length (encL e.x.attrs) := own_same HV5.out (fun b hb => Below.heap_setCell _ _ _ _ (by
    have h1 := (own_lt HV5.out hb).1
    have h2 : wc.drew.heap.size = wc.heap.size := rfl
    show b ≠ w.heap.size + 1
    omega))
  generalize w5.setCell ⟨w.heap.size + 1, 6, none⟩ (.slice va e.x.attrs.length vc) = w6 at hC6 hR6 hb6 hva6 ⊢
  have x0 : w6.cell? ⟨w.heap.size + 1, 0, none⟩ = some (.int .i64 e.id) := by rw [Lib.cell_of_heap hC6]; rfl
  have x1 : w6.cell? ⟨w.heap.size + 1, 1, none⟩ = some (.int .i64 e.par) := by rw [Lib.cell_of_heap hC6]; rfl
  have x2 : w6.cell? ⟨w.heap.size + 1, 2, none⟩ = some (.int .i64 e.x.kind) := by rw [Lib.cell_of_heap hC6]; rfl
  have x3 : w6.cell? ⟨w.heap.size + 1, 3, none⟩ = some (.int .i64 (e.kids.length : Int)) := by rw [Lib.cell_of_heap hC6]; rfl
  have x4 : w6.cell? ⟨w.heap.size + 1, 4, none⟩ = some (.string e.x.name) := by rw [Lib.cell_of_heap hC6]; rfl
  have x5 : w6.cell? ⟨w.heap.size + 1, 5, none⟩ = some (.string e.x.text) := by rw [Lib.cell_of_heap hC6]; rfl
  have x6 : w6.cell? ⟨w.heap.size + 1, 6, none⟩ = some (.slice va e.x.attrs.length vc) := by rw [Lib.cell_of_heap hC6]; rfl
  have y0 : w6.cell? ⟨w.heap.size, 0, none⟩ = some (.int .i64 0) := by rw [Lib.cell_of_heap hR6]; rfl
  have y1 : w6.cell? ⟨w.heap.size, 1, none⟩ = some (.int .i64 0) := by rw [Lib.cell_of_heap hR6]; rfl
  have y2 : w6.cell? ⟨w.heap.size, 2, none⟩ = some (.int .i64 0) := by rw [Lib.cell_of_heap hR6]; rfl
  have y3 : w6.cell? ⟨w.heap.size, 3, none⟩ = some (.int .i64 0) := by rw [Lib.cell_of_heap hR6]; rfl
  have y4 : w6.cell? ⟨w.heap.size, 4, none⟩ = some (.string ⟨#[]⟩) := by rw [Lib.cell_of_heap hR6]; rfl
  have y5 : w6.cell? ⟨w.heap.size, 5, none⟩ = some (.string ⟨#[]⟩) := by rw [Lib.cell_of_heap hR6]; rfl
  have y6 : w6.cell? ⟨w.heap.size, 6, none⟩ = some (.slice none 0 0) := by rw [Lib.cell_of_heap hR6]; rfl
  have fr : ∀ j, w6.frozen? ⟨w.heap.size, j, none⟩ = false := fun j => Lib.frozen_of_heap hR6 j
  have HV6 := hid hva6
  have HB6 := hid hb6
  have HR6 := hid hR6
  clear hC6 hR6 hb6 hva6
  go_wp2
  have hH7 : (((((((w6.setCell ⟨w.heap.size, 0, none⟩ (.int .i64 e.id)).setCell ⟨w.heap.size, 1, none⟩ (.int .i64 e.par)).setCell ⟨w.heap.size, 2, none⟩ (.int .i64 e.x.kind)).setCell ⟨w.heap.size, 3, none⟩ (.int .i64 (e.kids.length : Int))).setCell ⟨w.heap.size, 4, none⟩ (.string e.x.name)).setCell ⟨w.heap.size, 5, none⟩ (.string e.x.text)).setCell ⟨w.heap.size, 6, none⟩ (.slice va e.x.attrs.length vc)).heap[w.heap.size]? = some (.cells #[.int .i64 e.id, .int .i64 e.par, .int .i64 e.x.kind, .int .i64 (e.kids.length : Int), .string e.x.name, .string e.x.text, .slice va e.x.attrs.length vc] 40 (0, 0)) := (heap_setCell_same _ _ _ _ _ _ (heap_setCell_same _ _ _ _ _ _ (heap_setCell_same _ _ _ _ _ _ (heap_setCell_same _ _ _ _ _ _ (heap_setCell_same _ _ _ _ _ _ (heap_setCell_same _ _ _ _ _ _ (heap_setCell_same _ _ _ _ _ _ HR6.out)))))))
  have hB7 : Below w.heap.size w (((((((w6.setCell ⟨w.heap.size, 0, none⟩ (.int .i64 e.id)).setCell ⟨w.heap.size, 1, none⟩ (.int .i64 e.par)).setCell ⟨w.heap.size, 2, none⟩ (.int .i64 e.x.kind)).setCell ⟨w.heap.size, 3, none⟩ (.int .i64 (e.kids.length : Int))).setCell ⟨w.heap.size, 4, none⟩ (.string e.x.name)).setCell ⟨w.heap.size, 5, none⟩ (.string e.x.text)).setCell ⟨w.heap.size, 6, none⟩ (.slice va e.x.attrs.length vc)) := (((((((((HW1.out.trans (HB6.out.mono (by omega)))).setCell (p := ⟨w.heap.size, 0, none⟩) (Nat.le_refl _) _).setCell (p := ⟨w.heap.size, 1, none⟩) (Nat.le_refl _) _).setCell (p := ⟨w.heap.size, 2, none⟩) (Nat.le_refl _) _).setCell (p := ⟨w.heap.size, 3, none⟩) (Nat.le_refl _) _).setCell (p := ⟨w.heap.size, 4, none⟩) (Nat.le_refl _) _).setCell (p := ⟨w.heap.size, 5, none⟩) (Nat.le_refl _) _).setCell (p := ⟨w.heap.size, 6, none⟩) (Nat.le_refl _) _)
  have hV7 : (((((((w6.setCell ⟨w.heap.size, 0, none⟩ (.int .i64 e.id)).setCell ⟨w.heap.size, 1, none⟩ (.int .i64 e.par)).setCell ⟨w.heap.size, 2, none⟩ (.int .i64 e.x.kind)).setCell ⟨w.heap.size, 3, none⟩ (.int .i64 (e.kids.length : Int))).setCell ⟨w.heap.size, 4, none⟩ (.string e.x.name)).setCell ⟨w.heap.size, 5, none⟩ (.string e.x.text)).setCell ⟨w.heap.size, 6, none⟩ (.slice va e.x.attrs.length vc)).ownsRow w.heap.size 79 2 (.slice va e.x.attrs.length vc) e.x.attrs.length (encL e.x.attrs) := by
    refine own_down (own_same HV6.out (fun b hb => ?_)) (show w.heap.size ≤ wc.heap.size by omega)
    have h1 := (own_lt HV6.out hb).1
    have h2 : wc.drew.heap.size = wc.heap.size := rfl
    have hbn : b ≠ w.heap.size := by omega
    rw [Below.heap_setCell _ _ _ _ hbn, Below.heap_setCell _ _ _ _ hbn, Below.heap_setCell _ _ _ _ hbn, Below.heap_setCell _ _ _ _ hbn, Below.heap_setCell _ _ _ _ hbn, Below.heap_setCell _ _ _ _ hbn, Below.heap_setCell _ _ _ _ hbn]
  generalize (((((((w6.setCell ⟨w.heap.size, 0, none⟩ (.int .i64 e.id)).setCell ⟨w.heap.size, 1, none⟩ (.int .i64 e.par)).setCell ⟨w.heap.size, 2, none⟩ (.int .i64 e.x.kind)).setCell ⟨w.heap.size, 3, none⟩ (.int .i64 (e.kids.length : Int))).setCell ⟨w.heap.size, 4, none⟩ (.string e.x.name)).setCell ⟨w.heap.size, 5, none⟩ (.string e.x.text)).setCell ⟨w.heap.size, 6, none⟩ (.slice va e.x.attrs.length vc)) = w7 at hH7 hB7 hV7 ⊢
  have z0 : w7.cell? ⟨w.heap.size, 0, none⟩ = some (.int .i64 e.id) := by rw [Lib.cell_of_heap hH7]; rfl
  have z1 : w7.cell? ⟨w.heap.size, 1, none⟩ = some (.int .i64 e.par) := by rw [Lib.cell_of_heap hH7]; rfl
  have z2 : w7.cell? ⟨w.heap.size, 2, none⟩ = some (.int .i64 e.x.kind) := by rw [Lib.cell_of_heap hH7]; rfl
  have z3 : w7.cell? ⟨w.heap.size, 3, none⟩ = some (.int .i64 (e.kids.length : Int)) := by rw [Lib.cell_of_heap hH7]; rfl
  have z4 : w7.cell? ⟨w.heap.size, 4, none⟩ = some (.string e.x.name) := by rw [Lib.cell_of_heap hH7]; rfl
  have z5 : w7.cell? ⟨w.heap.size, 5, none⟩ = some (.string e.x.text) := by rw [Lib.cell_of_heap hH7]; rfl
  have z6 : w7.cell? ⟨w.heap.size, 6, none⟩ = some (.slice va e.x.attrs.length vc) := by rw [Lib.cell_of_heap hH7]; rfl
  refine bodyPost_ret (v := .tuple #[.agg #[.int .i64 e.id, .int .i64 e.par, .int .i64 e.x.kind, .int .i64 (e.kids.length : Int), .string e.x.name, .string e.x.text, .slice va e.x.attrs.length vc], .bool true]) ?_ rfl ⟨_, rfl, hV7, hB7⟩
  rw [results_cell_tmp rfl]
  go_simp
theorem get_none (h : Hid (TreeIn B tb mb f nx L w)) (id : Int) (hw : wfI id) (hl : Hid (look (idg L) id = none)) :
    Calls Tryd.prog 15 #[.pointer (some ⟨tb, 0, none⟩), .int .i64 id] w fun q w' => q = .returned (.tuple #[.agg #[.int .i64 0, .int .i64 0, .int .i64 0, .int .i64 0, .string ⟨#[]⟩, .string ⟨#[]⟩, .slice none 0 0], .bool false]) ∧ Below w.heap.size w w' := by
  have W1 := (Below.refl w.heap.size w).alloc (Nat.le_refl _) (.cells #[.int .i64 0, .int .i64 0, .int .i64 0, .int .i64 0, .string ⟨#[]⟩, .string ⟨#[]⟩, .slice none 0 0] 40)
  have hR := heap_alloc_new w (.cells #[.int .i64 0, .int .i64 0, .int .i64 0, .int .i64 0, .string ⟨#[]⟩, .string ⟨#[]⟩, .slice none 0 0] 40)
  obtain ⟨wb, hwb⟩ : ∃ wb, w.alloc (.cells #[.int .i64 0, .int .i64 0, .int .i64 0, .int .i64 0, .string ⟨#[]⟩, .string ⟨#[]⟩, .slice none 0 0] 40) = wb := ⟨_, rfl⟩
  rw [hwb] at W1 hR
  have T1 := h.out.below W1
  obtain ⟨c0, _⟩ := T1.cells
  have hg := T1.miss hw hl.out
  have y0 : wb.cell? ⟨w.heap.size, 0, none⟩ = some (.int .i64 0) := by rw [Lib.cell_of_heap hR]; rfl
  have y1 : wb.cell? ⟨w.heap.size, 1, none⟩ = some (.int .i64 0) := by rw [Lib.cell_of_heap hR]; rfl
  have y2 : wb.cell? ⟨w.heap.size, 2, none⟩ = some (.int .i64 0) := by rw [Lib.cell_of_heap hR]; rfl
  have y3 : wb.cell? ⟨w.heap.size, 3, none⟩ = some (.int .i64 0) := by rw [Lib.cell_of_heap hR]; rfl
  have y4 : wb.cell? ⟨w.heap.size, 4, none⟩ = some (.string ⟨#[]⟩) := by rw [Lib.cell_of_heap hR]; rfl
  have y5 : wb.cell? ⟨w.heap.size, 5, none⟩ = some (.string ⟨#[]⟩) := by rw [Lib.cell_of_heap hR]; rfl
  have y6 : wb.cell? ⟨w.heap.size, 6, none⟩ = some (.slice none 0 0) := by rw [Lib.cell_of_heap hR]; rfl
  have fr : ∀ j, wb.frozen? ⟨w.heap.size, j, none⟩ = false := fun j => Lib.frozen_of_heap hR j
  have HR := hid hR
  have HW1 := hid W1
  clear hR T1 W1
  go_enter Tryd.func15, Tryd.ntmps15
  go_wp2
  have hH7 : (((((((wb.setCell ⟨w.heap.size, 0, none⟩ (.int .i64 0)).setCell ⟨w.heap.size, 1, none⟩ (.int .i64 0)).setCell ⟨w.heap.size, 2, none⟩ (.int .i64 0)).setCell ⟨w.heap.size, 3, none⟩ (.int .i64 0)).setCell ⟨w.heap.size, 4, none⟩ (.string ⟨#[]⟩)).setCell ⟨w.heap.size, 5, none⟩ (.string ⟨#[]⟩)).setCell ⟨w.heap.size, 6, none⟩ (.slice none 0 0)).heap[w.heap.size]? = some (.cells #[.int .i64 0, .int .i64 0, .int .i64 0, .int .i64 0, .string ⟨#[]⟩, .string ⟨#[]⟩, .slice none 0 0] 40 (0, 0)) := (heap_setCell_same _ _ _ _ _ _ (heap_setCell_same _ _ _ _ _ _ (heap_setCell_same _ _ _ _ _ _ (heap_setCell_same _ _ _ _ _ _ (heap_setCell_same _ _ _ _ _ _ (heap_setCell_same _ _ _ _ _ _ (heap_setCell_same _ _ _ _ _ _ HR.out)))))))
  have hB7 : Below w.heap.size w (((((((wb.setCell ⟨w.heap.size, 0, none⟩ (.int .i64 0)).setCell ⟨w.heap.size, 1, none⟩ (.int .i64 0)).setCell ⟨w.heap.size, 2, none⟩ (.int .i64 0)).setCell ⟨w.heap.size, 3, none⟩ (.int .i64 0)).setCell ⟨w.heap.size, 4, none⟩ (.string ⟨#[]⟩)).setCell ⟨w.heap.size, 5, none⟩ (.string ⟨#[]⟩)).setCell ⟨w.heap.size, 6, none⟩ (.slice none 0 0)) := (((((((HW1.out.setCell (p := ⟨w.heap.size, 0, none⟩) (Nat.le_refl _) _).setCell (p := ⟨w.heap.size, 1, none⟩) (Nat.le_refl _) _).setCell (p := ⟨w.heap.size, 2, none⟩) (Nat.le_refl _) _).setCell (p := ⟨w.heap.size, 3, none⟩) (Nat.le_refl _) _).setCell (p := ⟨w.heap.size, 4, none⟩) (Nat.le_refl _) _).setCell (p := ⟨w.heap.size, 5, none⟩) (Nat.le_refl _) _).setCell (p := ⟨w.heap.size, 6, none⟩) (Nat.le_refl _) _)
  clear y0 y1 y2 y3 y4 y5 y6
  generalize (((((((wb.setCell ⟨w.heap.size, 0, none⟩ (.int .i64 0)).setCell ⟨w.heap.size, 1, none⟩ (.int .i64 0)).setCell ⟨w.heap.size, 2, none⟩ (.int .i64 0)).setCell ⟨w.heap.size, 3, none⟩ (.int .i64 0)).setCell ⟨w.heap.size, 4, none⟩ (.string ⟨#[]⟩)).setCell ⟨w.heap.size, 5, none⟩ (.string ⟨#[]⟩)).setCell ⟨w.heap.size, 6, none⟩ (.slice none 0 0)) = w7 at hH7 hB7 ⊢
  have z0 : w7.cell? ⟨w.heap.size, 0, none⟩ = some (.int .i64 0) := by rw [Lib.cell_of_heap hH7]; rfl
  have z1 : w7.cell? ⟨w.heap.size, 1, none⟩ = some (.int .i64 0) := by rw [Lib.cell_of_heap hH7]; rfl
  have z2 : w7.cell? ⟨w.heap.size, 2, none⟩ = some (.int .i64 0) := by rw [Lib.cell_of_heap hH7]; rfl
  have z3 : w7.cell? ⟨w.heap.size, 3, none⟩ = some (.int .i64 0) := by rw [Lib.cell_of_heap hH7]; rfl
  have z4 : w7.cell? ⟨w.heap.size, 4, none⟩ = some (.string ⟨#[]⟩) := by rw [Lib.cell_of_heap hH7]; rfl
  have z5 : w7.cell? ⟨w.heap.size, 5, none⟩ = some (.string ⟨#[]⟩) := by rw [Lib.cell_of_heap hH7]; rfl
  have z6 : w7.cell? ⟨w.heap.size, 6, none⟩ = some (.slice none 0 0) := by rw [Lib.cell_of_heap hH7]; rfl
  refine bodyPost_ret (v := .tuple #[.agg #[.int .i64 0, .int .i64 0, .int .i64 0, .int .i64 0, .string ⟨#[]⟩, .string ⟨#[]⟩, .slice none 0 0], .bool false]) ?_ rfl ⟨rfl, hB7⟩
  rw [results_cell_tmp rfl]
  go_simp
end
end N
end Go.Proofs.YtidccohjehegjaaDoor
