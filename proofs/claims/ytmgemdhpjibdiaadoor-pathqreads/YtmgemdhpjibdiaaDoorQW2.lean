/- The walk of pathq.Parse. -/
import Derived.Test.YtmgemdhpjibdiaaDoorQPred
import Derived.OwnWalk
namespace Go.Proofs.YtmgemdhpjibdiaaDoor
open Go.RowKit Go.Shelf Go.Sort
abbrev SV := Q.Step × Value
def encS1 (x : SV) : List Value := [.int .i64 x.1.axis, .int .i64 x.1.test, .string x.1.name, x.2]
def encS (l : List SV) : List Value := l.flatMap encS1
theorem encS_snoc (l : List SV) (x : SV) : encS (l ++ [x]) = encS l ++ encS1 x := by simp [encS]
/-- Steps lie in a row of the call's own, and each one's predicates in another. -/
def StepRow (base : Nat) (V : Value) (l : List SV) (w : World) : Prop :=
  w.ownsRow base 78 4 V l.length (encS l) ∧ ∀ x ∈ l, w.ownsRow base 86 4 x.2 x.1.preds.length (encPs x.1.preds)
theorem StepRow.kept {base : Nat} {V : Value} {l : List SV} {w w' : World} {b : Nat} {cs : Array Value} {z : Nat × Nat} (h : StepRow base V l w) (hb : w.heap[b]? = some (.cells cs 73 z)) (hg : w.grownBy w' (some b)) : StepRow base V l w' :=
  ⟨World.ownsRow.kept h.1 hg (Or.inr (own_ne h.1 hb (by decide))), fun x hx => World.ownsRow.kept (h.2 x hx) hg (Or.inr (own_ne (h.2 x hx) hb (by decide)))⟩
theorem own_mono {w : World} {base base' : Nat} {e : TypeId} {size : Nat} {v : Value} {n : Nat} {xs : List Value} (h : w.ownsRow base e size v n xs) (hb : base' ≤ base) : w.ownsRow base' e size v n xs := by
  refine ⟨h.1, ?_⟩
  rcases h.2 with h2 | ⟨g, cap, cur, h3, h4, h5⟩
  · exact Or.inl h2
  · exact Or.inr ⟨g, cap, cur, h3, Nat.le_trans hb h4, h5⟩
theorem StepRow.mono {base base' : Nat} {V : Value} {l : List SV} {w : World} (h : StepRow base V l w) (hb : base' ≤ base) : StepRow base' V l w := ⟨own_mono h.1 hb, fun x hx => own_mono (h.2 x hx) hb⟩
theorem StepRow.alloc {base : Nat} {V : Value} {l : List SV} {w : World} (h : StepRow base V l w) (o : Obj) : StepRow base V l (w.alloc o) := ⟨World.ownsRow.alloc h.1 o, fun x hx => World.ownsRow.alloc (h.2 x hx) o⟩
theorem rows_two {base base' : Nat} {e e' : TypeId} {size size' : Nat} {v v' : Value} {n n' : Nat} {xs xs' : List Value} {w : World} (h : w.ownsRow base e size v n xs) (h' : w.ownsRow base' e' size' v' n' xs') (ne : e ≠ e') : v.ownBlock = none ∨ v.ownBlock ≠ v'.ownBlock := by
  rcases h.2 with ⟨rfl, _⟩ | ⟨g, cap, cur, rfl, _, hg, _⟩
  · exact Or.inl rfl
  · right
    intro q
    rcases h'.2 with ⟨rfl, _⟩ | ⟨g', cap', cur', rfl, _, hg', _⟩
    · cases q
    · have : g = g' := by simpa [Value.ownBlock] using q
      subst this
      rw [hg] at hg'
      simp only [Option.some.injEq, Obj.cells.injEq] at hg'
      exact ne hg'.2.1
theorem infoS : (Tryd.prog.info? 78).map (fun i => (i.zero, i.size, i.bytes)) = some (some (.agg #[.int .i64 0, .int .i64 0, .string ⟨#[]⟩, .slice none 0 0]), 4, 56) := by kernel_rfl
theorem one_fourS (a b : Int) (c : ByteArray) (ao : Option Addr) (n k : Nat) : ∀ u ∈ [Value.int .i64 a, .int .i64 b, .string c, .slice ao n k], u.oneCell' = true := by
  intro u hu
  simp only [List.mem_cons, List.not_mem_nil, or_false] at hu
  rcases hu with rfl | rfl | rfl | rfl <;> rfl
def stepV (s : Q.Step) (v : Value) : Value := .agg #[.int .i64 s.axis, .int .i64 s.test, .string s.name, v]
section
variable {w0 : World} {b : Nat} {q : ByteArray} {i : Nat} {V : Value} {L : List SV} {w : World}
set_option maxRecDepth 100000 in
set_option maxHeartbeats 8000000 in
theorem add_any (R : Hid (QM w0 b q i V w)) (hL : Hid (StepRow w0.heap.size V L w)) (hlen : L.length ≤ 1000) (s : Q.Step) (v : Value) (HP : Hid (w.ownsRow w0.heap.size 86 4 v s.preds.length (encPs s.preds))) :
    Calls Tryd.prog 59 #[.pointer (some ⟨b, 0, none⟩), stepV s v] w fun e w' => e = .returned (.tuple #[]) ∧ ∃ V', QM w0 b q i V' w' ∧ StepRow w0.heap.size V' (L ++ [(s, v)]) w' := by
  obtain ⟨i0, hi0, hz0, hz1, hz2⟩ := info_parts infoS
  have I0 := hid hi0
  have I1 := hid hz0
  have I2 := hid hz1
  have I3 := hid hz2
  clear hi0 hz0 hz1 hz2
  obtain ⟨aoV, capV, rfl⟩ : ∃ ao cap, V = .slice ao L.length cap := by
    rcases hL.out.1.2 with ⟨h, h'⟩ | ⟨g, cap, _, h, _⟩
    · exact ⟨none, 0, by rw [h, h']⟩
    · exact ⟨_, cap, h⟩
  obtain ⟨ao, nn, cp, rfl⟩ : ∃ ao nn cap, v = .slice ao nn cap := by
    rcases HP.out.2 with ⟨h, h'⟩ | ⟨g, cap, _, h, _⟩
    · exact ⟨none, 0, 0, h⟩
    · exact ⟨_, _, cap, h⟩
  obtain ⟨ax, te, nm, ps⟩ := s
  have R1 := hid (R.out.new (.cells #[.int .i64 ax, .int .i64 te, .string nm, .slice ao nn cp] 78))
  have L1 := hid (hL.out.alloc (.cells #[.int .i64 ax, .int .i64 te, .string nm, .slice ao nn cp] 78))
  have A1 := hid (World.ownsRow.alloc HP.out (.cells #[.int .i64 ax, .int .i64 te, .string nm, .slice ao nn cp] 78))
  have hb := R.out.lt
  have hbs : w.heap.size < (w.alloc (.cells #[.int .i64 ax, .int .i64 te, .string nm, .slice ao nn cp] 78)).heap.size := by simp
  have nw := heap_alloc_new w (.cells #[.int .i64 ax, .int .i64 te, .string nm, .slice ao nn cp] 78)
  have k0 : (w.alloc (.cells #[.int .i64 ax, .int .i64 te, .string nm, .slice ao nn cp] 78)).cell? ⟨w.heap.size, 0, none⟩ = some (.int .i64 ax) := by rw [cell_of_row _ w.heap.size 0 _ _ _ nw]; rfl
  have k1 : (w.alloc (.cells #[.int .i64 ax, .int .i64 te, .string nm, .slice ao nn cp] 78)).cell? ⟨w.heap.size, 1, none⟩ = some (.int .i64 te) := by rw [cell_of_row _ w.heap.size 1 _ _ _ nw]; rfl
  have k2 : (w.alloc (.cells #[.int .i64 ax, .int .i64 te, .string nm, .slice ao nn cp] 78)).cell? ⟨w.heap.size, 2, none⟩ = some (.string nm) := by rw [cell_of_row _ w.heap.size 2 _ _ _ nw]; rfl
  have k3 : (w.alloc (.cells #[.int .i64 ax, .int .i64 te, .string nm, .slice ao nn cp] 78)).cell? ⟨w.heap.size, 3, none⟩ = some (.slice ao nn cp) := by rw [cell_of_row _ w.heap.size 3 _ _ _ nw]; rfl
  clear R nw hL HP
  unfold stepV
  go_enter Tryd.func59, Tryd.ntmps59
  go_wp2
  have c2 := R1.out.c2
  generalize (w.alloc (.cells #[.int .i64 ax, .int .i64 te, .string nm, .slice ao nn cp] 78)) = W1 at *
  generalize w.heap.size = B at *
  have HO : Hid ((W1.alloc (Obj.cells #[.int .i64 ax, .int .i64 te, .string nm, .slice ao nn cp] 78)).drew.ownsRow w0.heap.size 78 4 (.slice aoV L.length capV) L.length (encS L)) := hid (World.ownsRow.alloc L1.out.1 _)
  have HN : Hid (∀ t u, [Value.int .i64 ax, .int .i64 te, .string nm, .slice ao nn cp][t]? = some u → (W1.alloc (Obj.cells #[.int .i64 ax, .int .i64 te, .string nm, .slice ao nn cp] 78)).drew.cell? ((⟨W1.heap.size, 0, none⟩ : Addr).add t) = some u) :=
    hid (World.news_of_block (w := (W1.alloc (Obj.cells #[.int .i64 ax, .int .i64 te, .string nm, .slice ao nn cp] 78)).drew) (cs := #[.int .i64 ax, .int .i64 te, .string nm, .slice ao nn cp]) (heap_alloc_new W1 _))
  have a2 : (W1.alloc (Obj.cells #[.int .i64 ax, .int .i64 te, .string nm, .slice ao nn cp] 78)).cell? ⟨b, 2, none⟩ = some (.slice aoV L.length capV) := by rw [World.cell?_alloc_past _ _ _ R1.out.lt]; exact c2
  have q0 : (W1.alloc (Obj.cells #[.int .i64 ax, .int .i64 te, .string nm, .slice ao nn cp] 78)).cell? ⟨B, 0, none⟩ = some (.int .i64 ax) := by rw [World.cell?_alloc_past _ _ _ hbs]; exact k0
  have q1 : (W1.alloc (Obj.cells #[.int .i64 ax, .int .i64 te, .string nm, .slice ao nn cp] 78)).cell? ⟨B, 1, none⟩ = some (.int .i64 te) := by rw [World.cell?_alloc_past _ _ _ hbs]; exact k1
  have q2 : (W1.alloc (Obj.cells #[.int .i64 ax, .int .i64 te, .string nm, .slice ao nn cp] 78)).cell? ⟨B, 2, none⟩ = some (.string nm) := by rw [World.cell?_alloc_past _ _ _ hbs]; exact k2
  have q3 : (W1.alloc (Obj.cells #[.int .i64 ax, .int .i64 te, .string nm, .slice ao nn cp] 78)).cell? ⟨B, 3, none⟩ = some (.slice ao nn cp) := by rw [World.cell?_alloc_past _ _ _ hbs]; exact k3
  have hm : Hid (L.length + 1 ≤ maxLen ∧ (L.length + 1) * 56 ≤ 140737488355328 ∧ w0.heap.size ≤ W1.heap.size + 1) := hid ⟨by unfold maxLen; omega, by omega, by have := R1.out.size_le; omega⟩
  go_region_law (
    refine step_append_lies _ rfl (.tmp 8) (.tmp 10) 45 rfl w0.heap.size 78 i0 (.agg #[.int .i64 0, .int .i64 0, .string ⟨#[]⟩, .slice none 0 0]) 4 56 Tryd.underlying45 I0.out I1.out I2.out I3.out rfl (by decide) _ L.length (encS L) rfl HO.out ⟨W1.heap.size, 0, none⟩ 1 1 [.int .i64 ax, .int .i64 te, .string nm, .slice ao nn cp] rfl rfl HN.out (one_fourS _ _ _ _ _ _) (by decide) hm.out.1 hm.out.2.1 (by simpa using hm.out.2.2) (W1.heap.size + 1) (by simp) ?_
    intro g' cap' w4 hown hgrow hgl _
    have ob := own_ne L1.out.1 R1.out.obj (by decide)
    have G4 := hid (((R1.out.new (.cells #[.int .i64 ax, .int .i64 te, .string nm, .slice ao nn cp] 78)).drewN 1).grown hgrow (fun j hj => ⟨(World.ownsRow.lt L1.out.1 j hj).1, fun e => ob (hj.trans (congrArg some e))⟩))
    have T4 : Hid (StepRow w0.heap.size (.slice (some ⟨g', 0, none⟩) (L.length + 1) cap') (L ++ [(⟨ax, te, nm, ps⟩, .slice ao nn cp)]) w4) := hid (by
      refine ⟨by rw [encS_snoc, List.length_append]; exact hown, fun y hy => ?_⟩
      have keep : ∀ {base : Nat} {y : Value} {m : Nat} {xs : List Value}, W1.ownsRow base 86 4 y m xs → w4.ownsRow base 86 4 y m xs := fun {base y m xs} h =>
        World.ownsRow.kept (w := (W1.alloc (Obj.cells #[.int .i64 ax, .int .i64 te, .string nm, .slice ao nn cp] 78)).drew) (World.ownsRow.alloc h _) hgrow (rows_two h L1.out.1 (by decide))
      rcases List.mem_append.1 hy with hy | hy
      · exact keep (L1.out.2 y hy)
      · simp only [List.mem_singleton] at hy
        subst hy
        exact keep A1.out)
    have e2 : w4.cell? ⟨b, 2, none⟩ = some (.slice aoV L.length capV) := G4.out.c2
    have h2 : w4.frozen? ⟨b, 2, none⟩ = false := G4.out.frozen 2
    clear hown hgrow hgl ob)
  all_goals
    go_wp2
    first | go_end0 | go_ret
    exact ⟨rfl, _, G4.out.set 2 (.slice (some ⟨g', 0, none⟩) (L.length + 1) cap') rfl, T4.out.kept G4.out.obj (grown_setQ w4 ⟨b, 2, none⟩ _)⟩
end
end Go.Proofs.YtmgemdhpjibdiaaDoor
namespace Go.Proofs.YtmgemdhpjibdiaaDoor
open Go.RowKit Go.Shelf Go.Sort
namespace Q
theorem there_two (q : ByteArray) (i : Nat) (c d : UInt8) : L.thereB q i [c, d] = (L.thereB q i [c] && L.thereB q (i + 1) [d]) := by
  unfold L.thereB
  by_cases hi : i < q.size
  · rw [L.drop_at q i hi]
    by_cases hj : i + 1 < q.size
    · rw [L.drop_at q (i + 1) hj]
      simp [List.isPrefixOf]
    · rw [L.drop_end q (i + 1) (by omega)]
      simp [List.isPrefixOf]
  · rw [L.drop_end q i (by omega)]
    simp [List.isPrefixOf]
end Q
def withinS : SV := (⟨3, 4, L.noB, []⟩, .slice none 0 0)
section
variable {w0 : World} {b : Nat} {q : ByteArray} {i : Nat} {V : Value} {l : List SV} {w : World}
/-- What is told of the slash, or the two, ahead of a step. -/
def slashR (q : ByteArray) (i : Nat) (l : List SV) : Except L.Bad (List SV × Nat) :=
  if L.thereB q i [47] = false then .error ((i : Int), 70)
  else if 20 ≤ (if L.thereB q (i + 1) [47] = true then l ++ [withinS] else l).length then .error ((i : Int), 70)
  else .ok (if L.thereB q (i + 1) [47] = true then l ++ [withinS] else l, if L.thereB q (i + 1) [47] = true then i + 2 else i + 1)
def SlashPost (w0 : World) (b : Nat) (q : ByteArray) (res : Except L.Bad (List SV × Nat)) (e : Ending) (w' : World) : Prop :=
  (∃ (z : Nat) (V' : Value), res = .error ((z : Int), 70) ∧ z ≤ q.size ∧ e = .returned (.int .i64 70) ∧ QM w0 b q z V' w') ∨
  (∃ (L' : List SV) (n : Nat) (V' : Value), res = .ok (L', n) ∧ n ≤ q.size ∧ e = .returned (.int .i64 0) ∧ QM w0 b q n V' w' ∧ StepRow w0.heap.size V' L' w')
set_option maxRecDepth 100000 in
set_option maxHeartbeats 4000000 in
theorem slash_any (R : Hid (QM w0 b q i V w)) (hL : Hid (StepRow w0.heap.size V l w)) (hlen : l.length ≤ 20) (hi : i ≤ q.size) (hz : q.size ≤ 1048576) :
    Calls Tryd.prog 57 #[.pointer (some ⟨b, 0, none⟩)] w fun e w' => SlashPost w0 b q (slashR q i l) e w' := by
  obtain ⟨aoV, capV, rfl⟩ : ∃ ao cap, V = .slice ao l.length cap := by
    rcases hL.out.1.2 with ⟨h, h'⟩ | ⟨g, cap, _, h, _⟩
    · exact ⟨none, 0, by rw [h, h']⟩
    · exact ⟨_, cap, h⟩
  cases h2 : L.thereB q i [47, 47] with
  | true =>
    have h2' := h2
    rw [Q.there_two, Bool.and_eq_true] at h2'
    have hle : i + 2 ≤ q.size := Q.there_le hi h2
    have HT : Hid (L.thereB q i (ByteArray.mk #[47, 47]).data.toList = true) := hid h2
    have hSR : slashR q i l = if 20 ≤ l.length + 1 then .error ((i : Int), 70) else .ok (l ++ [withinS], i + 2) := by
      unfold slashR
      rw [if_neg (by rw [h2'.1]; simp), h2'.2]
      simp
    by_cases hl : 20 ≤ l.length + 1
    · have HR : Hid (slashR q i l = .error ((i : Int), 70)) := hid (by rw [hSR, if_pos hl])
      have hl' : (20 : Int) < (l.length : Int) + 2 := by omega
      clear hSR h2 h2' hl
      go_enter Tryd.func57, Tryd.ntmps57
      go_wp2_with fail
      refine Calls.mono (sees_any R hi ⟨#[47, 47]⟩ _ HT) ?_
      rintro e w1 ⟨rfl, m, rfl⟩
      have R1 := hid (R.out.drewN m)
      generalize w.drewN m = w1 at R1 ⊢
      have c2 := R1.out.c2
      go_wp2
      go_ret
      exact Or.inl ⟨i, _, HR.out, hi, rfl, R1.out⟩
    · have HR : Hid (slashR q i l = .ok (l ++ [withinS], i + 2)) := hid (by rw [hSR, if_neg hl])
      have hl' : ¬ (20 : Int) < (l.length : Int) + 2 := by omega
      clear hSR h2 h2' hl
      go_enter Tryd.func57, Tryd.ntmps57
      go_wp2_with fail
      refine Calls.mono (sees_any R hi ⟨#[47, 47]⟩ _ HT) ?_
      rintro e w1 ⟨rfl, m, rfl⟩
      have R1 := hid (R.out.drewN m)
      have L1 := hid (hL.out.kept R.out.obj (grown_drewQ w m _))
      generalize w.drewN m = w1 at R1 L1 ⊢
      have c2 := R1.out.c2
      go_wp2_with fail
      refine Calls.mono (passes_yes (hid R1.out.here) hi hz ⟨#[47, 47]⟩ HT) ?_
      rintro e w2 ⟨rfl, Ra⟩
      have L2 := hid (L1.out.kept R1.out.obj Ra.gr)
      have R2 : Hid (QM w0 b q (i + 2) (.slice aoV l.length capV) w2) := hid (R1.out.since Ra)
      clear Ra L1 R1 R hL c2
      go_wp2_with fail
      refine Calls.mono (add_any R2 L2 (by omega) ⟨3, 4, L.noB, []⟩ (.slice none 0 0) (hid (World.ownsRow_nil _ _ _ _))) ?_
      rintro e w3 ⟨rfl, V', R3, L3⟩
      have R3 := hid R3
      have L3 := hid L3
      go_wp2
      go_ret
      exact Or.inr ⟨_, i + 2, V', HR.out, hle, rfl, R3.out, L3.out⟩
  | false =>
    have HT : Hid (L.thereB q i (ByteArray.mk #[47, 47]).data.toList = false) := hid h2
    rw [Q.there_two, Bool.and_eq_false_iff] at h2
    cases h1 : L.thereB q i [47] with
    | false =>
      have HT1 : Hid (L.thereB q i (ByteArray.mk #[47]).data.toList = false) := hid h1
      have HR : Hid (slashR q i l = .error ((i : Int), 70)) := hid (by unfold slashR; rw [if_pos h1])
      clear h1 h2
      by_cases hl : 20 < l.length + 1
      · have hl' : (20 : Int) < (l.length : Int) + 1 := by omega
        go_enter Tryd.func57, Tryd.ntmps57
        go_wp2_with fail
        refine Calls.mono (sees_any R hi ⟨#[47, 47]⟩ _ HT) ?_
        rintro e w1 ⟨rfl, m, rfl⟩
        have R1 := hid (R.out.drewN m)
        generalize w.drewN m = w1 at R1 ⊢
        have c2 := R1.out.c2
        go_wp2
        go_ret
        exact Or.inl ⟨i, _, HR.out, hi, rfl, R1.out⟩
      · have hl' : ¬ (20 : Int) < (l.length : Int) + 1 := by omega
        go_enter Tryd.func57, Tryd.ntmps57
        go_wp2_with fail
        refine Calls.mono (sees_any R hi ⟨#[47, 47]⟩ _ HT) ?_
        rintro e w1 ⟨rfl, m, rfl⟩
        have R1 := hid (R.out.drewN m)
        generalize w.drewN m = w1 at R1 ⊢
        have c2 := R1.out.c2
        go_wp2_with fail
        refine Calls.mono (passes_no R1 hi ⟨#[47]⟩ HT1) ?_
        rintro e w2 ⟨rfl, R2⟩
        have R2 := hid R2
        go_wp2
        go_ret
        exact Or.inl ⟨i, _, HR.out, hi, rfl, R2.out⟩
    | true =>
      have h2' : L.thereB q (i + 1) [47] = false := by rcases h2 with h | h; rw [h1] at h; cases h; exact h
      have HT1 : Hid (L.thereB q i (ByteArray.mk #[47]).data.toList = true) := hid h1
      have hle := there1_lt hi h1
      have hSR : slashR q i l = if 20 ≤ l.length then .error ((i : Int), 70) else .ok (l, i + 1) := by
        unfold slashR
        rw [if_neg (by rw [h1]; simp), h2']
        simp
      by_cases hl : 20 ≤ l.length
      · have HR : Hid (slashR q i l = .error ((i : Int), 70)) := hid (by rw [hSR, if_pos hl])
        have hl' : (20 : Int) < (l.length : Int) + 1 := by omega
        clear hSR h1 h2 h2' hl
        go_enter Tryd.func57, Tryd.ntmps57
        go_wp2_with fail
        refine Calls.mono (sees_any R hi ⟨#[47, 47]⟩ _ HT) ?_
        rintro e w1 ⟨rfl, m, rfl⟩
        have R1 := hid (R.out.drewN m)
        generalize w.drewN m = w1 at R1 ⊢
        have c2 := R1.out.c2
        go_wp2
        go_ret
        exact Or.inl ⟨i, _, HR.out, hi, rfl, R1.out⟩
      · have HR : Hid (slashR q i l = .ok (l, i + 1)) := hid (by rw [hSR, if_neg hl])
        have hl' : ¬ (20 : Int) < (l.length : Int) + 1 := by omega
        clear hSR h1 h2 h2' hl
        go_enter Tryd.func57, Tryd.ntmps57
        go_wp2_with fail
        refine Calls.mono (sees_any R hi ⟨#[47, 47]⟩ _ HT) ?_
        rintro e w1 ⟨rfl, m, rfl⟩
        have R1 := hid (R.out.drewN m)
        have L1 := hid (hL.out.kept R.out.obj (grown_drewQ w m _))
        generalize w.drewN m = w1 at R1 L1 ⊢
        have c2 := R1.out.c2
        go_wp2_with fail
        refine Calls.mono (passes_yes (hid R1.out.here) hi hz ⟨#[47]⟩ HT1) ?_
        rintro e w2 ⟨rfl, Ra⟩
        have L2 := hid (L1.out.kept R1.out.obj Ra.gr)
        have R2 : Hid (QM w0 b q (i + 1) (.slice aoV l.length capV) w2) := hid (R1.out.since Ra)
        clear Ra L1 R1 R hL c2
        go_wp2
        go_ret
        exact Or.inr ⟨_, i + 1, _, HR.out, hle, rfl, R2.out, L2.out⟩
end
end Go.Proofs.YtmgemdhpjibdiaaDoor
namespace Go.Proofs.YtmgemdhpjibdiaaDoor
open Go.RowKit Go.Shelf Go.Sort
namespace Q
theorem parse_end {f : Nat} {q : ByteArray} {i : Nat} {l : List SV} (h : q.size ≤ i) (hl : l ≠ []) : parseF (f + 1) q i (l.map (·.1)) = .ok (l.map (·.1)) := by
  unfold parseF
  rw [if_pos ⟨h, by simpa using hl⟩]
theorem parse_go {f : Nat} {q : ByteArray} {i : Nat} {l : List SV} (h : i < q.size ∨ l = []) : parseF (f + 1) q i (l.map (·.1)) = match slashR q i l with
    | .error e => .error e
    | .ok (l', n) => match stepQ q n with
      | .error e => .error e
      | .ok (s, k) => parseF f q k (l'.map (·.1) ++ [s]) := by
  conv => lhs; unfold parseF
  rw [if_neg (by rintro ⟨h1, h2⟩; rcases h with h | h; omega; exact h2 (by rw [h]; rfl))]
  unfold slashR
  by_cases h1 : L.thereB q i [47] = false
  · rw [if_pos h1, if_pos h1]
  · rw [if_neg h1, if_neg h1]
    simp only
    cases h2 : L.thereB q (i + 1) [47] with
    | true =>
      simp only [if_true, List.length_append, List.length_map, List.length_singleton]
      by_cases h3 : 20 ≤ l.length + 1
      · rw [if_pos h3, if_pos h3]
      · rw [if_neg h3, if_neg h3]
        simp only [List.map_append, List.map_cons, List.map_nil, withinS]
        cases stepQ q (i + 2) <;> rfl
    | false =>
      simp only [Bool.false_eq_true, if_false, List.length_map]
      by_cases h3 : 20 ≤ l.length
      · rw [if_pos h3, if_pos h3]
      · rw [if_neg h3, if_neg h3]
        simp only
        cases stepQ q (i + 1) <;> rfl
theorem step_three (q : ByteArray) (i : Nat) : stepQ q i = if L.thereB q i [46, 46] = true then .ok (⟨4, 4, L.noB, []⟩, i + 2) else if L.thereB q i [46] = true then .ok (⟨8, 4, L.noB, []⟩, i + 1) else match testF q (axisF q i axes).2 [2, 3, 4] with
    | .error e => .error e
    | .ok (a, n) => match predsF 6 q n [] with
      | .error e => .error e
      | .ok (ps, k) => .ok (⟨(axisF q i axes).1, a.1, a.2, ps⟩, k) := by
  unfold stepQ
  rw [tested_test]
  split
  · rfl
  · split
    · rfl
    · cases testF q (axisF q i axes).2 [2, 3, 4] with
      | error e => rfl
      | ok z =>
        simp only
        unfold predsQ
        cases predsF 6 q z.2 [] <;> rfl
theorem slash_ok {q : ByteArray} {i : Nat} {l l' : List SV} {n : Nat} (h : slashR q i l = .ok (l', n)) : i < n ∧ l'.length < 20 := by
  unfold slashR at h
  by_cases h1 : L.thereB q i [47] = false
  · rw [if_pos h1] at h; cases h
  · rw [if_neg h1] at h
    generalize (if L.thereB q (i + 1) [47] = true then l ++ [withinS] else l) = x at h
    by_cases h2 : 20 ≤ x.length
    · rw [if_pos h2] at h; cases h
    · rw [if_neg h2] at h
      simp only [Except.ok.injEq, Prod.mk.injEq] at h
      obtain ⟨rfl, rfl⟩ := h
      refine ⟨by split <;> omega, by omega⟩
theorem preds_ok {q : ByteArray} {i m : Nat} {p : Pred} {n : Nat} (hi : i + 1 ≤ q.size) (h : predsR q i m = .ok (p, n)) : i < n := by
  unfold predsR at h
  split at h
  · cases h
  · have hp := pred_told (q := q) (i := i + 1) hi
    cases hq : predQ q (i + 1) with
    | error e => rw [hq] at h; cases h
    | ok z =>
      rw [hq] at h hp
      simp only at h
      split at h
      · cases h
      · simp only [Except.ok.injEq, Prod.mk.injEq] at h
        have := hp.1
        omega
def contP (f : Nat) (q : ByteArray) (l : List Step) : Except L.Bad (Step × Nat) → Except L.Bad (List Step)
  | .error e => .error e
  | .ok (s, k) => parseF f q k (l ++ [s])
def contS (f : Nat) (q : ByteArray) (l : List Step) (ax te : Int) (nm : ByteArray) : Except L.Bad (List Pred × Nat) → Except L.Bad (List Step)
  | .error e => .error e
  | .ok (ps, k) => parseF f q k (l ++ [⟨ax, te, nm, ps⟩])
def contT (f : Nat) (q : ByteArray) (l : List Step) (ax : Int) : Except L.Bad ((Int × ByteArray) × Nat) → Except L.Bad (List Step)
  | .error e => .error e
  | .ok (a, m) => contS f q l ax a.1 a.2 (predsF 6 q m [])
theorem preds_few {q : ByteArray} {i m : Nat} {p : Pred} {n : Nat} (h : predsR q i m = .ok (p, n)) : m ≠ 5 := by
  rintro rfl
  unfold predsR at h
  rw [if_pos rfl] at h
  cases h
theorem name_ge {q : ByteArray} {i : Nat} {nm : ByteArray} {n : Nat} (hi : i ≤ q.size) (h : nameR q i = .ok (nm, n)) : i ≤ n := by
  unfold nameR at h
  split at h
  · cases h
  · simp only [Except.ok.injEq, Prod.mk.injEq] at h
    have := (nameEnd_le hi).1
    omega
theorem test_ge {q : ByteArray} {i : Nat} {a : Int × ByteArray} {n : Nat} (hi : i ≤ q.size) : ∀ {l : List Int}, testF q i l = .ok (a, n) → i ≤ n
  | [], h => by
    unfold testF at h
    cases hn : nameR q i with
    | error e => rw [hn] at h; cases h
    | ok z =>
      rw [hn] at h
      simp only [Except.ok.injEq, Prod.mk.injEq] at h
      have := name_ge hi hn
      omega
  | t :: l, h => by
    unfold testF at h
    split at h
    · simp only [Except.ok.injEq, Prod.mk.injEq] at h
      omega
    · exact test_ge hi h
end Q
/-- The place at which the reader at block b stands. -/
def atQ (b : Nat) (w : World) : Nat := match w.cell? ⟨b, 1, none⟩ with | some v => (intOf v).toNat | none => 0
theorem QM.atQ {w0 : World} {b : Nat} {q : ByteArray} {i : Nat} {V : Value} {w : World} (h : QM w0 b q i V w) : atQ b w = i := by
  unfold Go.Proofs.YtmgemdhpjibdiaaDoor.atQ
  rw [h.c1]
  simp [intOf]
def QueryPost (w0 : World) (b : Nat) (q : ByteArray) (res : Except L.Bad (List Q.Step)) (e : Ending) (w' : World) : Prop :=
  (∃ (z : Nat) (e0 : Int) (V' : Value), res = .error ((z : Int), e0) ∧ e0 ≠ 0 ∧ e = .returned (.int .i64 e0) ∧ QM w0 b q z V' w') ∨
  (∃ (l : List SV) (n : Nat) (V' : Value), res = .ok (l.map (·.1)) ∧ e = .returned (.int .i64 0) ∧ QM w0 b q n V' w' ∧ StepRow w0.heap.size V' l w')
section
variable {w0 : World} {b : Nat} {q : ByteArray} {w : World}
set_option maxRecDepth 100000 in
set_option maxHeartbeats 8000000 in
theorem query_any (R : Hid (QM w0 b q 0 (.slice none 0 0) w)) (hz : q.size ≤ 1048576) (res : Except L.Bad (List Q.Step)) (HR : Hid (Q.parseF (q.size + 1) q 0 [] = res)) :
    Calls Tryd.prog 36 #[.pointer (some ⟨b, 0, none⟩)] w fun e w' => QueryPost w0 b q res e w' := by
  go_enter Tryd.func36, Tryd.ntmps36
  go_wp2
  refine scope_named fun F HF => ?_
  refine wp_scope_land F HF.out 0 1 (fun _ _ => False) (fun _ _ => 0) ((congrFun HF.out 0).trans rfl) ?_ (fun _ _ h => h.elim)
  go_wp2
  refine wp_label ?_
  go_wp2
  go_loopw [3, 4] (fun v3 v4 W => ∃ (i f : Nat) (V : Value) (l : List SV) (m : Bool), v3 = .int .i64 0 ∧ v4 = .bool m ∧ i ≤ q.size ∧ l.length ≤ 20 ∧ Hid (q.size - i < f) ∧ Hid (m = decide (i < q.size ∨ l = [])) ∧ Hid (Q.parseF f q i (l.map (·.1)) = res) ∧ Hid (QM w0 b q i V W) ∧ Hid (StepRow w0.heap.size V l W)) (fun _ _ W => q.size - atQ b W)
  case atStart => exact ⟨0, q.size + 1, _, [], true, rfl, rfl, by omega, by simp, hid (by omega), hid (by simp), HR, R, hid ⟨World.ownsRow_nil _ _ _ _, by simp⟩⟩
  case round =>
    obtain ⟨i, f, V, l, m, rfl, rfl, hi, hl, HF, HM, HP, RI, LI⟩ := hrel
    obtain ⟨f, rfl⟩ : ∃ g, f = g + 1 := ⟨f - 1, by have := HF.out; omega⟩
    cases m with
    | false =>
      have hm := HM.out
      have hm2 : ¬ (i < q.size ∨ l = []) := by simpa using hm.symm
      have HR2 : Hid (res = .ok (l.map (·.1))) := hid (by rw [← HP.out]; exact Q.parse_end (by omega) (fun h => hm2 (Or.inr h)))
      clear hm hm2 HM HP HF
      go_wp2
      go_ret
      exact Or.inr ⟨l, i, V, HR2.out, rfl, RI.out, LI.out⟩
    | true =>
      have hm2 : i < q.size ∨ l = [] := by simpa using HM.out.symm
      have HP2 := hid ((Q.parse_go (f := f) hm2).symm.trans HP.out)
      clear HM hm2 HP
      go_wp2_with fail
      refine Calls.mono (slash_any RI LI hl hi hz) ?_
      show ∀ e w', _ → _
      intro e w1 hres
      rcases hres with ⟨z, V', h1, h3, rfl, R1⟩ | ⟨l1, n, V', h1, h3, rfl, R1, L1⟩
      · have HR2 : Hid (res = .error ((z : Int), 70)) := hid (by rw [← HP2.out, h1])
        have R1 := hid R1
        clear h1 HP2
        go_wp2
        go_ret
        exact Or.inl ⟨z, 70, V', HR2.out, by decide, rfl, R1.out⟩
      · have HS0 : Hid (Q.contP f q (l1.map (·.1)) (Q.stepQ q n) = res) := hid (by rw [← HP2.out, h1]; simp only; unfold Q.contP; cases Q.stepQ q n <;> rfl)
        obtain ⟨hin, hl1⟩ := Q.slash_ok h1
        have R1 := hid R1
        have L1 := hid L1
        clear h1 HP2 LI
        cases hx : L.thereB q n [46, 46] with
        | true =>
          have hk2 : n + 2 ≤ q.size := Q.there_le h3 hx
          have HT : Hid (L.thereB q n (ByteArray.mk #[46, 46]).data.toList = true) := hid hx
          obtain ⟨k, HK⟩ : ∃ k, Hid (k = n + 2) := ⟨_, hid rfl⟩
          have hk : k ≤ q.size := by rw [HK.out]; exact hk2
          have hik : i < k := by rw [HK.out]; omega
          have HP3 : Hid (Q.parseF f q k ((l1 ++ [((⟨4, 4, L.noB, []⟩ : Q.Step), Value.slice none 0 0)]).map (·.1)) = res) := hid (by
            rw [← HS0.out, Q.step_three, if_pos hx, HK.out]
            simp [Q.contP])
          have HF2 : Hid (q.size - k < f) := hid (by have := HF.out; omega)
          clear HS0 hx
          go_wp2_with fail
          refine Calls.mono (passes_yes (hid R1.out.here) h3 hz ⟨#[46, 46]⟩ HT) ?_
          rintro e w2 ⟨rfl, Ra⟩
          have L2 := hid (L1.out.kept R1.out.obj Ra.gr)
          have e6 : n + (ByteArray.mk #[46, 46]).size = k := HK.out.symm
          rw [e6] at Ra
          have R2 := hid (R1.out.since Ra)
          clear Ra e6 HK
          go_wp2_with fail
          refine Calls.mono (add_any R2 L2 (by omega) ⟨4, 4, L.noB, []⟩ (.slice none 0 0) (hid (World.ownsRow_nil _ _ _ _))) ?_
          rintro e w3 ⟨rfl, V2, RE, LE⟩
          have RE := hid RE
          have LE := hid LE
          obtain ⟨l2, HL2⟩ : ∃ l2, Hid (l2 = l1 ++ [((⟨4, 4, L.noB, []⟩ : Q.Step), Value.slice none 0 0)]) := ⟨_, hid rfl⟩
          rw [← HL2.out] at HP3 LE
          have hl2 : l2.length ≤ 20 := by rw [HL2.out]; simp; omega
          have hne : Hid (l2 ≠ []) := hid (by rw [HL2.out]; simp)
          clear HL2 R2 L2
          have c0 := RE.out.c0
          have c1 := RE.out.c1
          go_wp2_with fail
          go_quiet (fail)
          go_wp2
          go_roundw
          case rel => exact ⟨k, f, V2, l2, _, rfl, rfl, hk, hl2, HF2, hid (by simp [hne.out]), HP3, hid (RE.out.drewN _), hid (LE.out.kept RE.out.obj (grown_drewQ _ _ _))⟩
          case measure =>
            have m1 := RI.out.atQ
            have m2 := (RE.out.drewN nq).atQ
            rw [m1]
            first | (rw [m2]; omega) | trace_state
        | false =>
          have hxx := hx
          have HT0 : Hid (L.thereB q n (ByteArray.mk #[46, 46]).data.toList = false) := hid hx
          clear hx
          go_wp2_with fail
          refine Calls.mono (passes_no (hid R1.out.here) h3 ⟨#[46, 46]⟩ HT0) ?_
          rintro e w2 ⟨rfl, Ra⟩
          have L1 := hid (L1.out.kept R1.out.obj Ra.gr)
          have R1 := hid (R1.out.since Ra)
          clear Ra HT0
          cases hx : L.thereB q n [46] with
          | true =>
            have hk2 : n + 1 ≤ q.size := Q.there_le h3 hx
            have HT : Hid (L.thereB q n (ByteArray.mk #[46]).data.toList = true) := hid hx
            obtain ⟨k, HK⟩ : ∃ k, Hid (k = n + 1) := ⟨_, hid rfl⟩
            have hk : k ≤ q.size := by rw [HK.out]; exact hk2
            have hik : i < k := by rw [HK.out]; omega
            have HP3 : Hid (Q.parseF f q k ((l1 ++ [((⟨8, 4, L.noB, []⟩ : Q.Step), Value.slice none 0 0)]).map (·.1)) = res) := hid (by
              rw [← HS0.out, Q.step_three, if_neg (by rw [hxx]; simp), if_pos hx, HK.out]
              simp [Q.contP])
            have HF2 : Hid (q.size - k < f) := hid (by have := HF.out; omega)
            clear HS0 hx hxx
            go_wp2_with fail
            refine Calls.mono (passes_yes (hid R1.out.here) h3 hz ⟨#[46]⟩ HT) ?_
            rintro e w2' ⟨rfl, Ra⟩
            have L2 := hid (L1.out.kept R1.out.obj Ra.gr)
            have e6 : n + (ByteArray.mk #[46]).size = k := HK.out.symm
            rw [e6] at Ra
            have R2 := hid (R1.out.since Ra)
            clear Ra e6 HK
            go_wp2_with fail
            refine Calls.mono (add_any R2 L2 (by omega) ⟨8, 4, L.noB, []⟩ (.slice none 0 0) (hid (World.ownsRow_nil _ _ _ _))) ?_
            rintro e w3 ⟨rfl, V2, RE, LE⟩
            have RE := hid RE
            have LE := hid LE
            obtain ⟨l2, HL2⟩ : ∃ l2, Hid (l2 = l1 ++ [((⟨8, 4, L.noB, []⟩ : Q.Step), Value.slice none 0 0)]) := ⟨_, hid rfl⟩
            rw [← HL2.out] at HP3 LE
            have hl2 : l2.length ≤ 20 := by rw [HL2.out]; simp; omega
            have hne : Hid (l2 ≠ []) := hid (by rw [HL2.out]; simp)
            clear HL2 R2 L2
            have c0 := RE.out.c0
            have c1 := RE.out.c1
            go_wp2_with fail
            go_quiet (fail)
            go_wp2
            go_roundw
            case rel => exact ⟨k, f, V2, l2, _, rfl, rfl, hk, hl2, HF2, hid (by simp [hne.out]), HP3, hid (RE.out.drewN _), hid (LE.out.kept RE.out.obj (grown_drewQ _ _ _))⟩
            case measure =>
              have m1 := RI.out.atQ
              have m2 := (RE.out.drewN nq).atQ
              rw [m1]
              first | (rw [m2]; omega) | trace_state
          | false =>
            have HT0 : Hid (L.thereB q n (ByteArray.mk #[46]).data.toList = false) := hid hx
            have HS1 : Hid (Q.contT f q (l1.map (·.1)) (Q.axisF q n Q.axes).1 (Q.testF q (Q.axisF q n Q.axes).2 [2, 3, 4]) = res) := hid (by
              rw [← HS0.out, Q.step_three, if_neg (by rw [hxx]; simp), if_neg (by rw [hx]; simp)]
              cases Q.testF q (Q.axisF q n Q.axes).2 [2, 3, 4] with
              | error e => rfl
              | ok z =>
                unfold Q.contT
                simp only
                unfold Q.contS
                cases Q.predsF 6 q z.2 [] <;> rfl)
            have hax := Q.axis_told (q := q) (i := n) h3 Q.axes (by decide)
            obtain ⟨ax, j0, HAX⟩ : ∃ ax j0, Hid (Q.axisF q n Q.axes = (ax, j0)) := ⟨_, _, hid rfl⟩
            rw [HAX.out] at hax HS1
            simp only at hax
            obtain ⟨ha1, ha2, _⟩ := hax
            clear hx hxx HS0
            go_wp2_with fail
            refine Calls.mono (passes_no (hid R1.out.here) h3 ⟨#[46]⟩ HT0) ?_
            rintro e w3 ⟨rfl, Ra⟩
            have L1 := hid (L1.out.kept R1.out.obj Ra.gr)
            have R1 := hid (R1.out.since Ra)
            clear Ra HT0
            go_wp2_with fail
            refine Calls.mono (axis_any (hid R1.out.here) h3 hz ax j0 HAX) ?_
            rintro e w4 ⟨rfl, Ra⟩
            have L2 := hid (L1.out.kept R1.out.obj Ra.gr)
            have R2 := hid (R1.out.since Ra)
            clear Ra R1 L1
            have R3 := hid (R2.out.here.new (stepObj ax 0 L.noB (.slice none 0 0)))
            have HC : Hid ((w4.alloc (stepObj ax 0 L.noB (.slice none 0 0))).heap[w4.heap.size]? = some (stepObj ax 0 L.noB (.slice none 0 0))) := hid (heap_alloc_new w4 _)
            have hcb : w4.heap.size ≠ b := by have := R2.out.lt; omega
            have hc0 : Hid (w4.heap.size ≤ w4.heap.size) := hid (Nat.le_refl _)
            obtain ⟨tres, HTR⟩ : ∃ t, Hid (Q.testF q j0 [2, 3, 4] = t) := ⟨_, hid rfl⟩
            go_wp2_with fail
            refine Calls.mono (test_any R3 ha2 hz w4.heap.size hcb hc0 ax (.slice none 0 0) HC tres HTR) ?_
            show ∀ e w', _ → _
            intro e w5 hres
            rcases hres with ⟨z, e0, te, nm, h1, h2, h4, rfl, R4, _⟩ | ⟨⟨te, nm⟩, n2, h1, h4, rfl, R4, HC4⟩
            · have HR2 : Hid (res = .error ((z : Int), e0) ∧ e0 ≠ 0) := hid ⟨by rw [← HS1.out, HTR.out, h1]; rfl, h2⟩
              have b0 : (e0 == 0) = false := beq_eq_false_iff_ne.2 h2
              have R5 := hid (R2.out.since R4)
              clear h1 h2 R4 HS1 HTR
              go_wp2
              go_ret
              exact Or.inl ⟨z, e0, V', HR2.out.1, HR2.out.2, rfl, R5.out⟩
            · obtain ⟨pres, HPR⟩ : ∃ t, Hid (Q.predsF 6 q n2 [] = t) := ⟨_, hid rfl⟩
              have HS2 : Hid (Q.contS f q (l1.map (·.1)) ax te nm pres = res) := hid (by rw [← HS1.out, HTR.out, h1]; unfold Q.contT; simp only; rw [HPR.out])
              have hj2 : Hid (j0 ≤ n2) := hid (by
                have hh := Q.test_ge ha2 (HTR.out.trans h1)
                exact hh)
              have R4 := hid R4
              have HC4 := hid HC4
              clear h1 HS1 HTR HC R3
              go_wp2
              go_loopw [3] (fun v3 W => ∃ (j g : Nat) (v : Value) (ps : List Q.Pred), v3 = .int .i64 0 ∧ j ≤ q.size ∧ n2 ≤ j ∧ ps.length + g = 6 ∧ ps.length ≤ 5 ∧ Hid (Q.predsF g q j ps = pres) ∧ Hid (QM w4 b q j V' W) ∧ Hid (W.heap[w4.heap.size]? = some (stepObj ax te nm v)) ∧ Hid (W.ownsRow w4.heap.size 86 4 v ps.length (encPs ps))) (fun _ W => q.size - atQ b W)
              case atStart => exact ⟨n2, 6, _, [], rfl, h4, Nat.le_refl _, rfl, by simp, HPR, R4, HC4, hid (World.ownsRow_nil _ _ _ _)⟩
              case round =>
                clear R4 HC4 HPR
                obtain ⟨j, g, v, ps, rfl, hj, hnj, hg, hps, HQ, RJ, HCJ, HOJ⟩ := hrel
                cases hb : L.thereB q j [91] with
                | false =>
                  have HT0 : Hid (L.thereB q j (ByteArray.mk #[91]).data.toList = false) := hid hb
                  have HP3 : Hid (Q.parseF f q j ((l1 ++ [((⟨ax, te, nm, ps⟩ : Q.Step), v)]).map (·.1)) = res) := hid (by
                    rw [← HS2.out, ← HQ.out, Q.preds_stop g q j ps hb]
                    simp [Q.contS])
                  obtain ⟨k, HK⟩ : ∃ k, Hid (k = j) := ⟨_, hid rfl⟩
                  have hk : k ≤ q.size := by rw [HK.out]; exact hj
                  have hik : i < k := by rw [HK.out]; have := hj2.out; omega
                  have HF2 : Hid (q.size - k < f) := hid (by have := HF.out; omega)
                  rw [← HK.out] at HP3
                  clear hb HQ HS2
                  go_wp2_with fail
                  refine Calls.mono (sees_any RJ hj ⟨#[91]⟩ _ HT0) ?_
                  rintro e w6 ⟨rfl, m6, rfl⟩
                  have RK := RJ.out.drewN m6
                  have HCK : (wr.drewN m6).heap[w4.heap.size]? = some (stepObj ax te nm v) := HCJ.out
                  have HOK : (wr.drewN m6).ownsRow w0.heap.size 86 4 v ps.length (encPs ps) := World.ownsRow.kept (own_mono HOJ.out R2.out.size_le) (grown_drewQ wr m6 (some b)) (Or.inr (own_ne HOJ.out RJ.out.obj (by decide)))
                  have LK := L2.out.kept R2.out.obj RK.gr
                  have RK0 := R2.out.since RK
                  rw [← HK.out] at RK0
                  have HOK := hid HOK
                  have LK := hid LK
                  have RK0 := hid RK0
                  generalize wr.drewN m6 = w6 at *
                  obtain ⟨d0, d1, d2, d3⟩ := step_cells HCK
                  clear RK HCK RJ HCJ HOJ
                  go_wp2_with fail
                  refine Calls.mono (add_any RK0 LK (by omega) ⟨ax, te, nm, ps⟩ v HOK) ?_
                  rintro e w7 ⟨rfl, V2, RE, LE⟩
                  have RE := hid RE
                  have LE := hid LE
                  obtain ⟨l2, HL2⟩ : ∃ l2, Hid (l2 = l1 ++ [((⟨ax, te, nm, ps⟩ : Q.Step), v)]) := ⟨_, hid rfl⟩
                  rw [← HL2.out] at HP3 LE
                  have hl2 : l2.length ≤ 20 := by rw [HL2.out]; simp; omega
                  have hne : Hid (l2 ≠ []) := hid (by rw [HL2.out]; simp)
                  clear HL2 HK RK0 LK HOK d0 d1 d2 d3
                  have c0 := RE.out.c0
                  have c1 := RE.out.c1
                  go_wp2_with fail
                  go_quiet (fail)
                  go_wp2
                  go_roundw
                  case rel => exact ⟨k, f, V2, l2, _, rfl, rfl, hk, hl2, HF2, hid (by simp [hne.out]), HP3, hid (RE.out.drewN _), hid (LE.out.kept RE.out.obj (grown_drewQ _ _ _))⟩
                  case measure =>
                    have m1 := RI.out.atQ
                    have m2 := (RE.out.drewN nq).atQ
                    rw [m1]
                    first | (rw [m2]; omega) | trace_state
                | true =>
                  have HT0 : Hid (L.thereB q j (ByteArray.mk #[91]).data.toList = true) := hid hb
                  obtain ⟨g, rfl⟩ : ∃ h, g = h + 1 := ⟨g - 1, by omega⟩
                  have HQ2 := hid ((Q.preds_step g q j ps hb).symm.trans HQ.out)
                  have hj1 := there1_lt hj hb
                  have HB := hid hb
                  clear HQ hb
                  go_wp2_with fail
                  refine Calls.mono (sees_any RJ hj ⟨#[91]⟩ _ HT0) ?_
                  rintro e w6 ⟨rfl, m6, rfl⟩
                  have RK := hid (RJ.out.drewN m6)
                  have HCK : Hid ((wr.drewN m6).heap[w4.heap.size]? = some (stepObj ax te nm v)) := HCJ
                  have HOK : Hid ((wr.drewN m6).ownsRow w4.heap.size 86 4 v ps.length (encPs ps)) := hid (World.ownsRow.kept HOJ.out (grown_drewQ wr m6 (some b)) (Or.inr (own_ne HOJ.out RJ.out.obj (by decide))))
                  generalize wr.drewN m6 = w6 at *
                  go_wp2_with fail
                  refine Calls.mono (pred_any RK hj hz w4.heap.size hcb hc0 ax te nm v ps HCK HOK hps HB) ?_
                  show ∀ e w', _ → _
                  intro e w7 hres
                  rcases hres with ⟨z, e0, h1, h2, h5, rfl, R6⟩ | ⟨p, n3, v', h1, h5, rfl, R6, HC6, HO6⟩
                  · have HR2 : Hid (res = .error ((z : Int), e0) ∧ e0 ≠ 0) := hid ⟨by rw [← HS2.out, ← HQ2.out, h1]; rfl, h2⟩
                    have b0 : (e0 == 0) = false := beq_eq_false_iff_ne.2 h2
                    have R7 := hid (R2.out.since R6)
                    clear h1 h2 R6 HS2 HQ2
                    go_wp2
                    go_ret
                    exact Or.inl ⟨z, e0, V', HR2.out.1, HR2.out.2, rfl, R7.out⟩
                  · have hlt := Q.preds_ok hj1 h1
                    have h55 := Q.preds_few h1
                    have HQ3 : Hid (Q.predsF g q n3 (ps ++ [p]) = pres) := hid (by rw [← HQ2.out, h1])
                    have R6 := hid R6
                    have HC6 := hid HC6
                    have HO6 := hid HO6
                    clear h1 HQ2
                    go_wp2
                    go_roundw
                    case rel => exact ⟨n3, g, v', ps ++ [p], rfl, h5, by omega, by simp; omega, by simp; omega, HQ3, R6, HC6, HO6⟩
                    case measure =>
                      have m1 := RJ.out.atQ
                      have m2 := R6.out.atQ
                      rw [m1]
                      first | (rw [m2]; omega) | trace_state
end
end Go.Proofs.YtmgemdhpjibdiaaDoor
namespace Go.Proofs.YtmgemdhpjibdiaaDoor
open Go.RowKit Go.Shelf Go.Sort
theorem below_of_grown {w w' : World} {b : Nat} (h : w.grownBy w' (some b)) (n : Nat) (hn : n ≤ b) (hs : n ≤ w.heap.size) : Below n w w' :=
  ⟨h.os, h.tape, h.output, h.size, fun k hk => h.block k (by omega) (fun e => by cases e; omega)⟩
def QPost (w : World) (res : Except L.Bad (List Q.Step)) (e : Ending) (w' : World) : Prop :=
  Below w.heap.size w w' ∧ ((∃ (z : Nat) (e0 : Int), res = .error ((z : Int), e0) ∧ e0 ≠ 0 ∧ e = .returned (.tuple #[.slice none 0 0, .int .i64 (z : Int), .int .i64 e0])) ∨
    (∃ (l : List SV) (V : Value), res = .ok (l.map (·.1)) ∧ e = .returned (.tuple #[V, .int .i64 0, .int .i64 0]) ∧ StepRow w.heap.size V l w'))
set_option maxRecDepth 100000 in
set_option maxHeartbeats 4000000 in
theorem qparse_any (q : ByteArray) (w : World) (ht : TabQ w) (res : Except L.Bad (List Q.Step)) (HR : Hid (Q.parseP q = res)) :
    Calls Tryd.prog 19 #[.string q] w fun e w' => QPost w res e w' := by
  have HT := hid ht
  clear ht
  go_enter Tryd.func19, Tryd.ntmps19
  by_cases h : 200 < q.size
  · have h' : (200 : Int) < (q.size : Int) := by omega
    have HR2 : Hid (res = .error ((0 : Int), 71)) := hid (by rw [← HR.out]; unfold Q.parseP; rw [if_pos h])
    clear h HR
    go_wp2
    go_ret3
    exact ⟨Below.refl _ _, Or.inl ⟨0, 71, HR2.out, by decide, rfl⟩⟩
  · have h' : ¬ (200 : Int) < (q.size : Int) := by omega
    have hz : q.size ≤ 1048576 := by omega
    have HR2 : Hid (Q.parseF (q.size + 1) q 0 [] = res) := hid (by rw [← HR.out]; unfold Q.parseP; rw [if_neg h])
    have hb : (Below w.heap.size w (w.alloc (rqObj q 0 (.slice none 0 0)))) := (Below.refl _ _).alloc (Nat.le_refl _) _
    have R : Hid (QM (w.alloc (rqObj q 0 (.slice none 0 0))) w.heap.size q 0 (.slice none 0 0) (w.alloc (rqObj q 0 (.slice none 0 0)))) := hid ⟨HT.out.below hb, HT.out.far, by simp, World.grownBy.refl _ _, heap_alloc_new w _⟩
    clear h HR
    go_wp2_with fail
    refine Calls.mono (query_any R hz res HR2) ?_
    show ∀ e w', _ → _
    intro e w1 hres
    rcases hres with ⟨z, e0, V', h1, h2, rfl, R1⟩ | ⟨l, n, V', h1, rfl, R1, L1⟩
    · have HR3 : Hid (res = .error ((z : Int), e0) ∧ e0 ≠ 0) := hid ⟨h1, h2⟩
      have b0 : (e0 == 0) = false := beq_eq_false_iff_ne.2 h2
      have HB := hid (hb.trans (below_of_grown R1.gr w.heap.size (Nat.le_refl _) (by simp)))
      have c1 := R1.c1
      clear h1 h2 HR2 R hb R1
      go_wp2_with fail
      go_quiet (fail)
      go_wp2
      go_ret3
      exact ⟨⟨HB.out.os, HB.out.tape, HB.out.output, HB.out.size, HB.out.block⟩, Or.inl ⟨z, e0, HR3.out.1, HR3.out.2, rfl⟩⟩
    · have HR3 : Hid (res = .ok (l.map (·.1))) := hid h1
      have HB := hid (hb.trans (below_of_grown R1.gr w.heap.size (Nat.le_refl _) (by simp)))
      have c2 := R1.c2
      have L2 : Hid (StepRow w.heap.size V' l w1) := hid (L1.mono (by simp))
      clear h1 HR2 R hb R1 L1
      go_wp2
      go_ret3
      exact ⟨HB.out, Or.inr ⟨l, V', HR3.out, rfl, L2.out⟩⟩
end Go.Proofs.YtmgemdhpjibdiaaDoor
