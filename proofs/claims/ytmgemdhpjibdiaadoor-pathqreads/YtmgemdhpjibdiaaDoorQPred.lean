/- The walk of the reader's pred: one predicate, laid behind the step's others. -/
import Derived.Test.YtmgemdhpjibdiaaDoorQW1
import Derived.Deep.RegionLaw
namespace Go.Proofs.YtmgemdhpjibdiaaDoor
open Go.RowKit Go.Shelf Go.Sort
def encP (p : Q.Pred) : List Value := [.int .i64 p.kind, .int .i64 p.num, .string p.name, .string p.value]
def encPs (l : List Q.Pred) : List Value := l.flatMap encP
theorem encPs_snoc (l : List Q.Pred) (p : Q.Pred) : encPs (l ++ [p]) = encPs l ++ encP p := by simp [encPs]
theorem infoP : (Tryd.prog.info? 86).map (fun i => (i.zero, i.size, i.bytes)) = some (some (.agg #[.int .i64 0, .int .i64 0, .string ⟨#[]⟩, .string ⟨#[]⟩]), 4, 48) := by kernel_rfl
theorem one_four (a b : Int) (c d : ByteArray) : ∀ u ∈ [Value.int .i64 a, .int .i64 b, .string c, .string d], u.oneCell' = true := by
  intro u hu
  simp only [List.mem_cons, List.not_mem_nil, or_false] at hu
  rcases hu with rfl | rfl | rfl | rfl <;> rfl
theorem own_ne {w : World} {base : Nat} {e e' : TypeId} {size n : Nat} {v : Value} {xs : List Value} {b : Nat} {cs : Array Value} {z : Nat × Nat} (h : w.ownsRow base e size v n xs) (hb : w.heap[b]? = some (.cells cs e' z)) (ne : e ≠ e') : v.ownBlock ≠ some b := by
  intro q
  rcases h.2 with ⟨rfl, _⟩ | ⟨g, cap, cur, rfl, _, hg, _⟩
  · simp [Value.ownBlock] at q
  · simp only [Value.ownBlock, Option.some.injEq] at q
    subst q
    rw [hg] at hb
    simp only [Option.some.injEq, Obj.cells.injEq] at hb
    exact ne hb.2.1
section
variable {w0 : World} {b : Nat} {q : ByteArray} {i : Nat} {V : Value} {w : World}
theorem QM.grown (h : QM w0 b q i V w) {w' : World} {row : Option Nat} (hg : w.grownBy w' row) (hr : ∀ j, row = some j → w0.heap.size ≤ j ∧ j ≠ b) : QM w0 b q i V w' :=
  ⟨h.tab, h.far, h.lo, h.gr.andThen hg (fun j hj => Or.inl (hr j hj).1), (hg.block b h.lt (fun e => (hr b e.symm).2 rfl)).trans h.obj⟩
/-- Behind an append to a step's predicates. -/
theorem pred_grown (h : QM w0 b q i V w) {c : Nat} {ax te : Int} {nm : ByteArray} {v : Value} (hc : w.heap[c]? = some (stepObj ax te nm v)) {n : Nat} {xs : List Value} (ho : w.ownsRow w0.heap.size 86 4 v n xs) {w' : World} (hg : w.drew.grownBy w' v.ownBlock) : QM w0 b q i V w' ∧ w'.heap[c]? = some (stepObj ax te nm v) := by
  have h1 := own_ne ho h.obj (by decide)
  have h2 := own_ne ho hc (by decide)
  refine ⟨(h.drewN 1).grown hg (fun j hj => ⟨(World.ownsRow.lt ho j hj).1, fun e => h1 (by rw [hj, e])⟩), ?_⟩
  exact (hg.block c (lt_of_block hc) (fun e => h2 e.symm)).trans hc
/-- A row of predicates stays, whatever is written into the step. -/
theorem own_other {w4 : World} {c : Nat} {ax te : Int} {nm : ByteArray} {v u : Value} {base n : Nat} {xs : List Value} (ho : w4.ownsRow base 86 4 v n xs) (hc : w4.heap[c]? = some (stepObj ax te nm u)) (j : Nat) (x : Value) : (w4.setCell ⟨c, j, none⟩ x).ownsRow base 86 4 v n xs :=
  World.ownsRow.kept ho (grown_setQ w4 ⟨c, j, none⟩ x) (Or.inr (own_ne ho hc (by decide)))
/-- A row of predicates stays behind a reader's call. -/
theorem own_row {w w' : World} {i i' : Nat} {V V' : Value} {base n : Nat} {v : Value} {xs : List Value} (R : QM w b q i' V' w') (hb : w.heap[b]? = some (rqObj q i V)) (ho : w.ownsRow base 86 4 v n xs) : w'.ownsRow base 86 4 v n xs :=
  World.ownsRow.kept ho R.gr (Or.inr (own_ne ho hb (by decide)))
/-- A predicate under way, at block B, of a step under way, at block c. -/
structure PB (w0 : World) (b c B : Nat) (q : ByteArray) (i : Nat) (V : Value) (ax te : Int) (nm : ByteArray) (v : Value) (ps : List Q.Pred) (p : Q.Pred) (w : World) : Prop where
  qm : QM w0 b q i V w
  pr : w.heap[B]? = some (predObj p)
  st : w.heap[c]? = some (stepObj ax te nm v)
  ow : w.ownsRow w0.heap.size 86 4 v ps.length (encPs ps)
  ne : B ≠ b ∧ B ≠ c ∧ c ≠ b ∧ w0.heap.size ≤ B ∧ w0.heap.size ≤ c ∧ v.ownBlock ≠ some B
section
variable {c B : Nat} {ax te : Int} {nm : ByteArray} {v : Value} {ps : List Q.Pred} {p : Q.Pred}
theorem PB.call (h : PB w0 b c B q i V ax te nm v ps p w) {i' : Nat} {w' : World} (h' : QM w b q i' V w') : PB w0 b c B q i' V ax te nm v ps p w' :=
  ⟨h.qm.since h', h'.stays h.pr h.ne.1, h'.stays h.st h.ne.2.2.1, own_row h' h.qm.obj h.ow, h.ne⟩
theorem PB.put (h : PB w0 b c B q i V ax te nm v ps p w) (j : Nat) (u : Value) {p' : Q.Pred} (e : (#[Value.int .i64 p.kind, .int .i64 p.num, .string p.name, .string p.value].setIfInBounds j u) = #[Value.int .i64 p'.kind, .int .i64 p'.num, .string p'.name, .string p'.value]) : PB w0 b c B q i V ax te nm v ps p' (w.setCell ⟨B, j, none⟩ u) :=
  ⟨h.qm.other B j h.ne.1 h.ne.2.2.2.1 u, pred_set h.pr j u e, (heap_setCell_other w ⟨B, j, none⟩ c u (fun e => h.ne.2.1 e.symm)).trans h.st, World.ownsRow.kept h.ow (grown_setQ w ⟨B, j, none⟩ u) (Or.inr h.ne.2.2.2.2.2), h.ne⟩
theorem PB.more (h : PB w0 b c B q i V ax te nm v ps p w) (o : Obj) {w' : World} (hg : (w.alloc o).drew.grownBy w' v.ownBlock) : QM w0 b q i V w' ∧ w'.heap[c]? = some (stepObj ax te nm v) :=
  pred_grown (h.qm.new o) ((h.qm.here.new o).stays h.st h.ne.2.2.1) (World.ownsRow.alloc h.ow o) hg
end
/-- What a predicate's reading leaves behind. -/
def PredPost (w0 : World) (b c : Nat) (q : ByteArray) (V : Value) (ax te : Int) (nm : ByteArray) (ps : List Q.Pred) (res : Except L.Bad (Q.Pred × Nat)) (e : Ending) (w' : World) : Prop :=
  (∃ (z : Nat) (e0 : Int), res = .error ((z : Int), e0) ∧ e0 ≠ 0 ∧ z ≤ q.size ∧ e = .returned (.int .i64 e0) ∧ QM w0 b q z V w') ∨
  (∃ (p : Q.Pred) (n : Nat) (v' : Value), res = .ok (p, n) ∧ n ≤ q.size ∧ e = .returned (.int .i64 0) ∧ QM w0 b q n V w' ∧ w'.heap[c]? = some (stepObj ax te nm v') ∧ w'.ownsRow w0.heap.size 86 4 v' (ps ++ [p]).length (encPs (ps ++ [p])))
set_option maxRecDepth 100000 in
set_option maxHeartbeats 8000000 in
theorem pred_any (R : Hid (QM w0 b q i V w)) (hi : i ≤ q.size) (hz : q.size ≤ 1048576) (c : Nat) (hcb : c ≠ b) (hc0 : Hid (w0.heap.size ≤ c)) (ax te : Int) (nm : ByteArray) (v : Value) (ps : List Q.Pred) (HS : Hid (w.heap[c]? = some (stepObj ax te nm v))) (HO : Hid (w.ownsRow w0.heap.size 86 4 v ps.length (encPs ps))) (hps : ps.length ≤ 5) (HT : Hid (L.thereB q i [91] = true)) :
    Calls Tryd.prog 63 #[.pointer (some ⟨b, 0, none⟩), .pointer (some ⟨c, 0, none⟩)] w fun e w' => PredPost w0 b c q V ax te nm ps (Q.predsR q i ps.length) e w' := by
  obtain ⟨i0, hi0, hz0, hz1, hz2⟩ := info_parts infoP
  have I0 := hid hi0
  have I1 := hid hz0
  have I2 := hid hz1
  have I3 := hid hz2
  clear hi0 hz0 hz1 hz2
  obtain ⟨ao, cap, rfl⟩ : ∃ ao cap, v = .slice ao ps.length cap := by
    rcases HO.out.2 with ⟨h, h'⟩ | ⟨g, cap, _, h, _⟩
    · exact ⟨none, 0, by rw [h, h']⟩
    · exact ⟨_, cap, h⟩
  obtain ⟨_, _, _, s3⟩ := step_cells HS.out
  by_cases h5 : ps.length = 5
  · have b5 : ((ps.length : Int) == 5) = true := by simp [h5]
    have HR : Hid (Q.predsR q i ps.length = .error ((i : Int), 70)) := hid (by unfold Q.predsR; rw [if_pos h5])
    have h5' : (ps.length : Int) = 5 := by omega
    clear h5
    go_enter Tryd.func63, Tryd.ntmps63
    go_wp2
    go_ret
    exact Or.inl ⟨i, 70, HR.out, by decide, hi, rfl, R.out⟩
  · have b5 : ((ps.length : Int) == 5) = false := beq_eq_false_iff_ne.2 (by omega)
    have hi1 := there1_lt hi HT.out
    have HT1 : Hid (L.thereB q i (ByteArray.mk #[91]).data.toList = true) := HT
    have HR : Hid (Q.predsR q i ps.length = match Q.predR q (i + 1) with
      | .error e => .error e
      | .ok (p, n) => if L.thereB q n [93] = false then .error ((n : Int), 70) else .ok (p, n + 1)) := hid (by unfold Q.predsR; rw [if_neg h5, Q.pred_shape]; cases Q.predR q (i + 1) <;> rfl)
    have hps4 : ps.length ≤ 4 := by omega
    clear h5 hps
    go_enter Tryd.func63, Tryd.ntmps63
    go_wp2_with fail
    refine Calls.mono (passes_yes (hid R.out.here) hi hz ⟨#[91]⟩ HT1) ?_
    rintro e w1 ⟨rfl, Ra⟩
    have HC := hid (Ra.stays HS.out hcb)
    have HO1 := hid (own_row Ra R.out.obj HO.out)
    have R1 : Hid (QM w0 b q (i + 1) V w1) := hid (R.out.since Ra)
    have HB : Hid (PB w0 b c w1.heap.size q (i + 1) V ax te nm (.slice ao ps.length cap) ps ⟨0, 0, L.noB, L.noB⟩ (w1.alloc (predObj ⟨0, 0, L.noB, L.noB⟩))) := hid
      ⟨R1.out.new _, heap_alloc_new w1 _, (R1.out.here.new (predObj ⟨0, 0, L.noB, L.noB⟩)).stays HC.out hcb, World.ownsRow.alloc HO1.out _, by have := R1.out.lt; omega, by have := lt_of_block HC.out; omega, hcb, R1.out.size_le, hc0.out, fun e => by have := (World.ownsRow.lt HO1.out _ e).2; omega⟩
    clear Ra R HS HO s3 HC HO1 R1
    obtain ⟨to, HD⟩ : ∃ to, Hid (L.runP Q.digitB q (i + 1) = to) := ⟨_, hid rfl⟩
    have hto := L.run_ge Q.digitB q (i + 1)
    rw [HD.out] at hto
    go_wp2_with fail
    refine Calls.mono (digits_any (hid HB.out.qm) hi1 hz to HD) ?_
    rintro e w2 ⟨rfl, rfl⟩
    generalize (w1.alloc (predObj ⟨0, 0, L.noB, L.noB⟩)) = w2 at *
    generalize w1.heap.size = B at *
    by_cases hd : to = i + 1
    · have hd' : ¬ (0 : Int) < (to : Int) - ((i + 1 : Nat) : Int) := by omega
      have HND : Hid (L.runP Q.digitB q (i + 1) = i + 1) := hid (HD.out.trans hd)
      clear hd HD hto
      cases hl : L.thereB q (i + 1) Q.lastW with
      | true =>
        have HL : Hid (L.thereB q (i + 1) (ByteArray.mk #[108, 97, 115, 116, 40, 41]).data.toList = true) := hid hl
        obtain ⟨n, HNN⟩ : ∃ n, Hid (n = i + 1 + 6) := ⟨_, hid rfl⟩
        have hn : n ≤ q.size := by rw [HNN.out]; exact Q.there_le hi1 hl
        have HR2 : Hid (Q.predsR q i ps.length = if L.thereB q n [93] = false then .error ((n : Int), 70) else .ok (⟨2, 0, L.noB, L.noB⟩, n + 1)) := hid (by rw [HR.out]; unfold Q.predR; rw [if_neg (fun h => h HND.out), if_pos hl, HNN.out])
        clear hl HND HR
        go_wp2_with fail
        refine Calls.mono (passes_yes (hid HB.out.qm.here) hi1 hz ⟨#[108, 97, 115, 116, 40, 41]⟩ HL) ?_
        rintro e w3 ⟨rfl, Ra⟩
        have HB3 := HB.out.call Ra
        have e6 : i + 1 + (ByteArray.mk #[108, 97, 115, 116, 40, 41]).size = n := HNN.out.symm
        rw [e6] at HB3
        obtain ⟨p0, p1, p2, p3⟩ := pred_cells HB3.pr
        have g0 := pred_frozen HB3.pr 0
        have HB := hid (HB3.put 0 (.int .i64 2) (p' := ⟨2, 0, L.noB, L.noB⟩) rfl)
        clear HB3 Ra e6
        go_wp2_with fail
        clear p0 p1 p2 p3 g0
        generalize (w3.setCell ⟨B, 0, none⟩ (.int .i64 2)) = W1 at *
        obtain ⟨p0, p1, p2, p3⟩ := pred_cells HB.out.pr
        obtain ⟨_, _, _, s3⟩ := step_cells HB.out.st
        have sf := step_frozen HB.out.st 3
        have hlt := lt_of_block HB.out.pr
        have clt := lt_of_block HB.out.st
        have n1 : B ≠ W1.heap.size := by omega
        have n2 : c ≠ W1.heap.size := by omega
        have HO1 : Hid ((W1.alloc (Obj.cells #[.int .i64 2, .int .i64 0, .string L.noB, .string L.noB] 86)).drew.ownsRow w0.heap.size 86 4 (.slice ao ps.length cap) ps.length (encPs ps)) := hid (World.ownsRow.alloc HB.out.ow _)
        have HN : Hid (∀ t u, [Value.int .i64 2, .int .i64 0, .string L.noB, .string L.noB][t]? = some u → (W1.alloc (Obj.cells #[.int .i64 2, .int .i64 0, .string L.noB, .string L.noB] 86)).drew.cell? ((⟨W1.heap.size, 0, none⟩ : Addr).add t) = some u) :=
          hid (World.news_of_block (w := (W1.alloc (Obj.cells #[.int .i64 2, .int .i64 0, .string L.noB, .string L.noB] 86)).drew) (cs := #[.int .i64 2, .int .i64 0, .string L.noB, .string L.noB]) (heap_alloc_new W1 _))
        have q0 : (W1.alloc (Obj.cells #[.int .i64 2, .int .i64 0, .string L.noB, .string L.noB] 86)).cell? ⟨B, 0, none⟩ = some (.int .i64 2) := by rw [World.cell?_alloc_past _ _ _ hlt]; exact p0
        have q1 : (W1.alloc (Obj.cells #[.int .i64 2, .int .i64 0, .string L.noB, .string L.noB] 86)).cell? ⟨B, 1, none⟩ = some (.int .i64 0) := by rw [World.cell?_alloc_past _ _ _ hlt]; exact p1
        have q2 : (W1.alloc (Obj.cells #[.int .i64 2, .int .i64 0, .string L.noB, .string L.noB] 86)).cell? ⟨B, 2, none⟩ = some (.string L.noB) := by rw [World.cell?_alloc_past _ _ _ hlt]; exact p2
        have q3 : (W1.alloc (Obj.cells #[.int .i64 2, .int .i64 0, .string L.noB, .string L.noB] 86)).cell? ⟨B, 3, none⟩ = some (.string L.noB) := by rw [World.cell?_alloc_past _ _ _ hlt]; exact p3
        have a3 : (W1.alloc (Obj.cells #[.int .i64 2, .int .i64 0, .string L.noB, .string L.noB] 86)).cell? ⟨c, 3, none⟩ = some (.slice ao ps.length cap) := by rw [World.cell?_alloc_past _ _ _ clt]; exact s3
        have hm : Hid (ps.length + 1 ≤ maxLen ∧ (ps.length + 1) * 48 ≤ 140737488355328 ∧ w0.heap.size ≤ W1.heap.size + 1) := hid ⟨by unfold maxLen; omega, by omega, by have := HB.out.qm.size_le; omega⟩
        clear hlt clt
        go_region_law (
          refine step_append_lies _ rfl (.tmp 57) (.tmp 59) 76 rfl w0.heap.size 86 i0 (.agg #[.int .i64 0, .int .i64 0, .string ⟨#[]⟩, .string ⟨#[]⟩]) 4 48 Tryd.underlying76 I0.out I1.out I2.out I3.out rfl (by decide) _ ps.length (encPs ps) rfl HO1.out ⟨W1.heap.size, 0, none⟩ 1 1 [.int .i64 2, .int .i64 0, .string L.noB, .string L.noB] rfl rfl HN.out (one_four _ _ _ _) (by decide) hm.out.1 hm.out.2.1 (by simpa using hm.out.2.2) (W1.heap.size + 1) (by simp) ?_
          intro g' cap' w4 hown hgrow hgl _
          have G4 := hid (HB.out.more (.cells #[.int .i64 2, .int .i64 0, .string L.noB, .string L.noB] 86) hgrow)
          have O4 : Hid (w4.ownsRow w0.heap.size 86 4 (.slice (some ⟨g', 0, none⟩) (ps.length + 1) cap') (ps ++ [(⟨2, 0, L.noB, L.noB⟩ : Q.Pred)]).length (encPs (ps ++ [(⟨2, 0, L.noB, L.noB⟩ : Q.Pred)]))) := hid (by rw [encPs_snoc, List.length_append]; exact hown)
          have e3 : w4.cell? ⟨c, 3, none⟩ = some (.slice ao ps.length cap) := (step_cells G4.out.2).2.2.2
          have h3 : w4.frozen? ⟨c, 3, none⟩ = false := step_frozen G4.out.2 3
          clear hown hgrow hgl)
        all_goals
          have R5 := hid (G4.out.1.other c 3 HB.out.ne.2.2.1 HB.out.ne.2.2.2.2.1 (.slice (some ⟨g', 0, none⟩) (ps.length + 1) cap'))
          have C5 := step_set G4.out.2 3 (.slice (some ⟨g', 0, none⟩) (ps.length + 1) cap') (v' := .slice (some ⟨g', 0, none⟩) (ps.length + 1) cap') rfl
          have O5 := own_other O4.out G4.out.2 3 (.slice (some ⟨g', 0, none⟩) (ps.length + 1) cap')
          cases hx : L.thereB q n [93] with
          | false =>
            have HX : Hid (L.thereB q n (ByteArray.mk #[93]).data.toList = false) := hid hx
            have HR3 : Hid (Q.predsR q i ps.length = .error ((n : Int), 70)) := hid (by rw [HR2.out, if_pos hx])
            clear hx
            go_wp2_with fail
            refine Calls.mono (must_no R5 hn ⟨#[93]⟩ HX) ?_
            rintro e w5 ⟨rfl, R6⟩
            have R6 := hid R6
            go_wp2
            go_ret
            exact Or.inl ⟨n, 70, HR3.out, by decide, hn, rfl, R6.out⟩
          | true =>
            have HX : Hid (L.thereB q n (ByteArray.mk #[93]).data.toList = true) := hid hx
            have hn1 := there1_lt hn hx
            have HR3 : Hid (Q.predsR q i ps.length = .ok (⟨2, 0, L.noB, L.noB⟩, n + 1)) := hid (by rw [HR2.out, if_neg (by rw [hx]; simp)])
            clear hx
            go_wp2_with fail
            refine Calls.mono (must_yes (hid R5.out.here) hn hz ⟨#[93]⟩ HX) ?_
            rintro e w5 ⟨rfl, R6⟩
            have C6 := hid (R6.stays C5 HB.out.ne.2.2.1)
            have O6 := hid (own_row R6 R5.out.obj O5)
            have R7 : Hid (QM w0 b q (n + 1) V w5) := hid (R5.out.since R6)
            go_wp2
            go_ret
            exact Or.inr ⟨_, n + 1, _, HR3.out, hn1, rfl, R7.out, C6.out, O6.out⟩
      | false =>
        have HL : Hid (L.thereB q (i + 1) (ByteArray.mk #[108, 97, 115, 116, 40, 41]).data.toList = false) := hid hl
        go_wp2_with fail
        refine Calls.mono (passes_no (hid HB.out.qm.here) hi1 ⟨#[108, 97, 115, 116, 40, 41]⟩ HL) ?_
        rintro e w3 ⟨rfl, Ra⟩
        have HB := hid (HB.out.call Ra)
        clear Ra HL
        cases hat : L.thereB q (i + 1) [64] with
        | true =>
          have HL : Hid (L.thereB q (i + 1) (ByteArray.mk #[64]).data.toList = true) := hid hat
          obtain ⟨k, HK⟩ : ∃ k, Hid (k = i + 1 + 1) := ⟨_, hid rfl⟩
          have hk : k ≤ q.size := by rw [HK.out]; exact there1_lt hi1 hat
          have HR2 : Hid (Q.predsR q i ps.length = match attR q k with
            | .error e => .error e
            | .ok (p, n) => if L.thereB q n [93] = false then .error ((n : Int), 70) else .ok (p, n + 1)) := hid (by
            rw [HR.out]; unfold Q.predR; rw [if_neg (fun h => h HND.out), if_neg (by rw [hl]; simp), if_pos hat, HK.out])
          clear hl hat HND HR
          go_wp2_with fail
          refine Calls.mono (passes_yes (hid HB.out.qm.here) hi1 hz ⟨#[64]⟩ HL) ?_
          rintro e w4 ⟨rfl, Ra⟩
          have HB4 := HB.out.call Ra
          have e6 : i + 1 + (ByteArray.mk #[64]).size = k := HK.out.symm
          rw [e6] at HB4
          have HB := hid HB4
          clear HB4 Ra e6 HL
          obtain ⟨ra, HRA⟩ : ∃ ra, Hid (attR q k = ra) := ⟨_, hid rfl⟩
          go_wp2_with fail
          refine Calls.mono (attribute_any (hid HB.out.qm.here) hk hz ra HRA) ?_
          show ∀ e w', _ → _
          intro e w5 hres
          rcases hres with ⟨z, e0, u, h1, h2, h3, rfl, ⟨⟨kd, nn, pn, pv⟩, rfl⟩, Ra⟩ | ⟨⟨kd, nn, pn, pv⟩, n, h1, h3, rfl, Ra⟩
          · have HR3 : Hid (Q.predsR q i ps.length = .error ((z : Int), e0) ∧ e0 ≠ 0) := hid ⟨by rw [HR2.out, HRA.out, h1], h2⟩
            have HB5 := HB.out.call Ra
            obtain ⟨p0, p1, p2, p3⟩ := pred_cells HB5.pr
            have g0 := pred_frozen HB5.pr 0
            have g1 := pred_frozen HB5.pr 1
            have g2 := pred_frozen HB5.pr 2
            have g3 := pred_frozen HB5.pr 3
            have HB := hid HB5
            have b0 : (e0 == 0) = false := beq_eq_false_iff_ne.2 h2
            have HQ := hid ((((HB5.qm.other B 0 HB5.ne.1 HB5.ne.2.2.2.1 (.int .i64 kd)).other B 1 HB5.ne.1 HB5.ne.2.2.2.1 (.int .i64 nn)).other B 2 HB5.ne.1 HB5.ne.2.2.2.1 (.string pn)).other B 3 HB5.ne.1 HB5.ne.2.2.2.1 (.string pv))
            unfold predV
            clear h1 h2 Ra HB5 HR2
            go_wp2
            go_ret
            exact Or.inl ⟨z, e0, HR3.out.1, HR3.out.2, h3, rfl, HQ.out⟩
          · have HR2 : Hid (Q.predsR q i ps.length = if L.thereB q n [93] = false then .error ((n : Int), 70) else .ok (⟨kd, nn, pn, pv⟩, n + 1)) := hid (by rw [HR2.out, HRA.out, h1])
            have hn : n ≤ q.size := h3
            have HB5 := HB.out.call Ra
            obtain ⟨p0, p1, p2, p3⟩ := pred_cells HB5.pr
            have g0 := pred_frozen HB5.pr 0
            have g1 := pred_frozen HB5.pr 1
            have g2 := pred_frozen HB5.pr 2
            have g3 := pred_frozen HB5.pr 3
            have HB := hid ((((HB5.put 0 (.int .i64 kd) (p' := ⟨kd, 0, L.noB, L.noB⟩) rfl).put 1 (.int .i64 nn) (p' := ⟨kd, nn, L.noB, L.noB⟩) rfl).put 2 (.string pn) (p' := ⟨kd, nn, pn, L.noB⟩) rfl).put 3 (.string pv) (p' := ⟨kd, nn, pn, pv⟩) rfl)
            unfold predV
            clear h1 Ra HB5 HRA
            go_wp2_with fail
            clear p0 p1 p2 p3 g0 g1 g2 g3
            generalize ((((w5.setCell ⟨B, 0, none⟩ (.int .i64 kd)).setCell ⟨B, 1, none⟩ (.int .i64 nn)).setCell ⟨B, 2, none⟩ (.string pn)).setCell ⟨B, 3, none⟩ (.string pv)) = W1 at *
            obtain ⟨p0, p1, p2, p3⟩ := pred_cells HB.out.pr
            obtain ⟨_, _, _, s3⟩ := step_cells HB.out.st
            have sf := step_frozen HB.out.st 3
            have hlt := lt_of_block HB.out.pr
            have clt := lt_of_block HB.out.st
            have n1 : B ≠ W1.heap.size := by omega
            have n2 : c ≠ W1.heap.size := by omega
            have HO1 : Hid ((W1.alloc (Obj.cells #[.int .i64 kd, .int .i64 nn, .string pn, .string pv] 86)).drew.ownsRow w0.heap.size 86 4 (.slice ao ps.length cap) ps.length (encPs ps)) := hid (World.ownsRow.alloc HB.out.ow _)
            have HN : Hid (∀ t u, [Value.int .i64 kd, .int .i64 nn, .string pn, .string pv][t]? = some u → (W1.alloc (Obj.cells #[.int .i64 kd, .int .i64 nn, .string pn, .string pv] 86)).drew.cell? ((⟨W1.heap.size, 0, none⟩ : Addr).add t) = some u) :=
              hid (World.news_of_block (w := (W1.alloc (Obj.cells #[.int .i64 kd, .int .i64 nn, .string pn, .string pv] 86)).drew) (cs := #[.int .i64 kd, .int .i64 nn, .string pn, .string pv]) (heap_alloc_new W1 _))
            have q0 : (W1.alloc (Obj.cells #[.int .i64 kd, .int .i64 nn, .string pn, .string pv] 86)).cell? ⟨B, 0, none⟩ = some (.int .i64 kd) := by rw [World.cell?_alloc_past _ _ _ hlt]; exact p0
            have q1 : (W1.alloc (Obj.cells #[.int .i64 kd, .int .i64 nn, .string pn, .string pv] 86)).cell? ⟨B, 1, none⟩ = some (.int .i64 nn) := by rw [World.cell?_alloc_past _ _ _ hlt]; exact p1
            have q2 : (W1.alloc (Obj.cells #[.int .i64 kd, .int .i64 nn, .string pn, .string pv] 86)).cell? ⟨B, 2, none⟩ = some (.string pn) := by rw [World.cell?_alloc_past _ _ _ hlt]; exact p2
            have q3 : (W1.alloc (Obj.cells #[.int .i64 kd, .int .i64 nn, .string pn, .string pv] 86)).cell? ⟨B, 3, none⟩ = some (.string pv) := by rw [World.cell?_alloc_past _ _ _ hlt]; exact p3
            have a3 : (W1.alloc (Obj.cells #[.int .i64 kd, .int .i64 nn, .string pn, .string pv] 86)).cell? ⟨c, 3, none⟩ = some (.slice ao ps.length cap) := by rw [World.cell?_alloc_past _ _ _ clt]; exact s3
            have hm : Hid (ps.length + 1 ≤ maxLen ∧ (ps.length + 1) * 48 ≤ 140737488355328 ∧ w0.heap.size ≤ W1.heap.size + 1) := hid ⟨by unfold maxLen; omega, by omega, by have := HB.out.qm.size_le; omega⟩
            clear hlt clt
            go_region_law (
              refine step_append_lies _ rfl (.tmp 57) (.tmp 59) 76 rfl w0.heap.size 86 i0 (.agg #[.int .i64 0, .int .i64 0, .string ⟨#[]⟩, .string ⟨#[]⟩]) 4 48 Tryd.underlying76 I0.out I1.out I2.out I3.out rfl (by decide) _ ps.length (encPs ps) rfl HO1.out ⟨W1.heap.size, 0, none⟩ 1 1 [.int .i64 kd, .int .i64 nn, .string pn, .string pv] rfl rfl HN.out (one_four _ _ _ _) (by decide) hm.out.1 hm.out.2.1 (by simpa using hm.out.2.2) (W1.heap.size + 1) (by simp) ?_
              intro g' cap' w4 hown hgrow hgl _
              have G4 := hid (HB.out.more (.cells #[.int .i64 kd, .int .i64 nn, .string pn, .string pv] 86) hgrow)
              have O4 : Hid (w4.ownsRow w0.heap.size 86 4 (.slice (some ⟨g', 0, none⟩) (ps.length + 1) cap') (ps ++ [(⟨kd, nn, pn, pv⟩ : Q.Pred)]).length (encPs (ps ++ [(⟨kd, nn, pn, pv⟩ : Q.Pred)]))) := hid (by rw [encPs_snoc, List.length_append]; exact hown)
              have e3 : w4.cell? ⟨c, 3, none⟩ = some (.slice ao ps.length cap) := (step_cells G4.out.2).2.2.2
              have h3 : w4.frozen? ⟨c, 3, none⟩ = false := step_frozen G4.out.2 3
              clear hown hgrow hgl)
            all_goals
              have R5 := hid (G4.out.1.other c 3 HB.out.ne.2.2.1 HB.out.ne.2.2.2.2.1 (.slice (some ⟨g', 0, none⟩) (ps.length + 1) cap'))
              have C5 := step_set G4.out.2 3 (.slice (some ⟨g', 0, none⟩) (ps.length + 1) cap') (v' := .slice (some ⟨g', 0, none⟩) (ps.length + 1) cap') rfl
              have O5 := own_other O4.out G4.out.2 3 (.slice (some ⟨g', 0, none⟩) (ps.length + 1) cap')
              cases hx : L.thereB q n [93] with
              | false =>
                have HX : Hid (L.thereB q n (ByteArray.mk #[93]).data.toList = false) := hid hx
                have HR3 : Hid (Q.predsR q i ps.length = .error ((n : Int), 70)) := hid (by rw [HR2.out, if_pos hx])
                clear hx
                go_wp2_with fail
                refine Calls.mono (must_no R5 hn ⟨#[93]⟩ HX) ?_
                rintro e w5 ⟨rfl, R6⟩
                have R6 := hid R6
                go_wp2
                go_ret
                exact Or.inl ⟨n, 70, HR3.out, by decide, hn, rfl, R6.out⟩
              | true =>
                have HX : Hid (L.thereB q n (ByteArray.mk #[93]).data.toList = true) := hid hx
                have hn1 := there1_lt hn hx
                have HR3 : Hid (Q.predsR q i ps.length = .ok (⟨kd, nn, pn, pv⟩, n + 1)) := hid (by rw [HR2.out, if_neg (by rw [hx]; simp)])
                clear hx
                go_wp2_with fail
                refine Calls.mono (must_yes (hid R5.out.here) hn hz ⟨#[93]⟩ HX) ?_
                rintro e w5 ⟨rfl, R6⟩
                have C6 := hid (R6.stays C5 HB.out.ne.2.2.1)
                have O6 := hid (own_row R6 R5.out.obj O5)
                have R7 : Hid (QM w0 b q (n + 1) V w5) := hid (R5.out.since R6)
                go_wp2
                go_ret
                exact Or.inr ⟨_, n + 1, _, HR3.out, hn1, rfl, R7.out, C6.out, O6.out⟩
        | false =>
          have HL : Hid (L.thereB q (i + 1) (ByteArray.mk #[64]).data.toList = false) := hid hat
          go_wp2_with fail
          refine Calls.mono (passes_no (hid HB.out.qm.here) hi1 ⟨#[64]⟩ HL) ?_
          rintro e w4 ⟨rfl, Ra⟩
          have HB := hid (HB.out.call Ra)
          clear Ra HL
          cases htx : L.thereB q (i + 1) Q.textW with
          | true =>
            have HL : Hid (L.thereB q (i + 1) (ByteArray.mk #[116, 101, 120, 116, 40, 41]).data.toList = true) := hid htx
            obtain ⟨k, HK⟩ : ∃ k, Hid (k = i + 1 + 6) := ⟨_, hid rfl⟩
            have hk : k ≤ q.size := by rw [HK.out]; exact Q.there_le hi1 htx
            have HR2 : Hid (Q.predsR q i ps.length = match valR q k with
              | .error e => .error e
              | .ok (v, n) => if L.thereB q n [93] = false then .error ((n : Int), 70) else .ok (⟨5, 0, L.noB, v⟩, n + 1)) := hid (by
              rw [HR.out]; unfold Q.predR; rw [if_neg (fun h => h HND.out), if_neg (by rw [hl]; simp), if_neg (by rw [hat]; simp), if_pos htx, HK.out]; cases valR q (i + 1 + 6) <;> rfl)
            clear hl hat htx HND HR
            go_wp2_with fail
            refine Calls.mono (passes_yes (hid HB.out.qm.here) hi1 hz ⟨#[116, 101, 120, 116, 40, 41]⟩ HL) ?_
            rintro e w5 ⟨rfl, Ra⟩
            have HB4 := HB.out.call Ra
            have e6 : i + 1 + (ByteArray.mk #[116, 101, 120, 116, 40, 41]).size = k := HK.out.symm
            rw [e6] at HB4
            obtain ⟨p0, p1, p2, p3⟩ := pred_cells HB4.pr
            have g0 := pred_frozen HB4.pr 0
            have HB := hid (HB4.put 0 (.int .i64 5) (p' := ⟨5, 0, L.noB, L.noB⟩) rfl)
            clear HB4 Ra e6 HL
            obtain ⟨x61, HX61⟩ : ∃ x, Hid (L.thereB q k [61] = x) := ⟨_, hid rfl⟩
            go_wp2_with fail
            clear p0 p1 p2 p3 g0
            generalize (w5.setCell ⟨B, 0, none⟩ (.int .i64 5)) = w6 at *
            refine Calls.mono (qvalue_any (hid HB.out.qm.here) hk hz x61 HX61) ?_
            show ∀ e w', _ → _
            intro e w7 hres
            rcases hres with ⟨z, e0, u, h1, h2, h3, rfl, ⟨pv, rfl⟩, Ra⟩ | ⟨pv, n, h1, h3, rfl, Ra⟩
            · have HR3 : Hid (Q.predsR q i ps.length = .error ((z : Int), e0) ∧ e0 ≠ 0) := hid ⟨by rw [HR2.out, h1], h2⟩
              have HB5 := HB.out.call Ra
              obtain ⟨p0, p1, p2, p3⟩ := pred_cells HB5.pr
              have g3 := pred_frozen HB5.pr 3
              have b0 : (e0 == 0) = false := beq_eq_false_iff_ne.2 h2
              have HQ := hid (HB5.qm.other B 3 HB5.ne.1 HB5.ne.2.2.2.1 (.string pv))
              clear h1 h2 Ra HB5 HR2
              go_wp2
              go_ret
              exact Or.inl ⟨z, e0, HR3.out.1, HR3.out.2, h3, rfl, HQ.out⟩
            · have HR2 : Hid (Q.predsR q i ps.length = if L.thereB q n [93] = false then .error ((n : Int), 70) else .ok (⟨5, 0, L.noB, pv⟩, n + 1)) := hid (by rw [HR2.out, h1])
              have hn : n ≤ q.size := h3
              have HB5 := HB.out.call Ra
              obtain ⟨p0, p1, p2, p3⟩ := pred_cells HB5.pr
              have g3 := pred_frozen HB5.pr 3
              have HB := hid (HB5.put 3 (.string pv) (p' := ⟨5, 0, L.noB, pv⟩) rfl)
              clear h1 Ra HB5
              go_wp2_with fail
              clear p0 p1 p2 p3 g3
              generalize (w7.setCell ⟨B, 3, none⟩ (.string pv)) = W1 at *
              obtain ⟨p0, p1, p2, p3⟩ := pred_cells HB.out.pr
              obtain ⟨_, _, _, s3⟩ := step_cells HB.out.st
              have sf := step_frozen HB.out.st 3
              have hlt := lt_of_block HB.out.pr
              have clt := lt_of_block HB.out.st
              have n1 : B ≠ W1.heap.size := by omega
              have n2 : c ≠ W1.heap.size := by omega
              have HO1 : Hid ((W1.alloc (Obj.cells #[.int .i64 5, .int .i64 0, .string L.noB, .string pv] 86)).drew.ownsRow w0.heap.size 86 4 (.slice ao ps.length cap) ps.length (encPs ps)) := hid (World.ownsRow.alloc HB.out.ow _)
              have HN : Hid (∀ t u, [Value.int .i64 5, .int .i64 0, .string L.noB, .string pv][t]? = some u → (W1.alloc (Obj.cells #[.int .i64 5, .int .i64 0, .string L.noB, .string pv] 86)).drew.cell? ((⟨W1.heap.size, 0, none⟩ : Addr).add t) = some u) :=
                hid (World.news_of_block (w := (W1.alloc (Obj.cells #[.int .i64 5, .int .i64 0, .string L.noB, .string pv] 86)).drew) (cs := #[.int .i64 5, .int .i64 0, .string L.noB, .string pv]) (heap_alloc_new W1 _))
              have q0 : (W1.alloc (Obj.cells #[.int .i64 5, .int .i64 0, .string L.noB, .string pv] 86)).cell? ⟨B, 0, none⟩ = some (.int .i64 5) := by rw [World.cell?_alloc_past _ _ _ hlt]; exact p0
              have q1 : (W1.alloc (Obj.cells #[.int .i64 5, .int .i64 0, .string L.noB, .string pv] 86)).cell? ⟨B, 1, none⟩ = some (.int .i64 0) := by rw [World.cell?_alloc_past _ _ _ hlt]; exact p1
              have q2 : (W1.alloc (Obj.cells #[.int .i64 5, .int .i64 0, .string L.noB, .string pv] 86)).cell? ⟨B, 2, none⟩ = some (.string L.noB) := by rw [World.cell?_alloc_past _ _ _ hlt]; exact p2
              have q3 : (W1.alloc (Obj.cells #[.int .i64 5, .int .i64 0, .string L.noB, .string pv] 86)).cell? ⟨B, 3, none⟩ = some (.string pv) := by rw [World.cell?_alloc_past _ _ _ hlt]; exact p3
              have a3 : (W1.alloc (Obj.cells #[.int .i64 5, .int .i64 0, .string L.noB, .string pv] 86)).cell? ⟨c, 3, none⟩ = some (.slice ao ps.length cap) := by rw [World.cell?_alloc_past _ _ _ clt]; exact s3
              have hm : Hid (ps.length + 1 ≤ maxLen ∧ (ps.length + 1) * 48 ≤ 140737488355328 ∧ w0.heap.size ≤ W1.heap.size + 1) := hid ⟨by unfold maxLen; omega, by omega, by have := HB.out.qm.size_le; omega⟩
              clear hlt clt
              go_region_law (
                refine step_append_lies _ rfl (.tmp 57) (.tmp 59) 76 rfl w0.heap.size 86 i0 (.agg #[.int .i64 0, .int .i64 0, .string ⟨#[]⟩, .string ⟨#[]⟩]) 4 48 Tryd.underlying76 I0.out I1.out I2.out I3.out rfl (by decide) _ ps.length (encPs ps) rfl HO1.out ⟨W1.heap.size, 0, none⟩ 1 1 [.int .i64 5, .int .i64 0, .string L.noB, .string pv] rfl rfl HN.out (one_four _ _ _ _) (by decide) hm.out.1 hm.out.2.1 (by simpa using hm.out.2.2) (W1.heap.size + 1) (by simp) ?_
                intro g' cap' w4 hown hgrow hgl _
                have G4 := hid (HB.out.more (.cells #[.int .i64 5, .int .i64 0, .string L.noB, .string pv] 86) hgrow)
                have O4 : Hid (w4.ownsRow w0.heap.size 86 4 (.slice (some ⟨g', 0, none⟩) (ps.length + 1) cap') (ps ++ [(⟨5, 0, L.noB, pv⟩ : Q.Pred)]).length (encPs (ps ++ [(⟨5, 0, L.noB, pv⟩ : Q.Pred)]))) := hid (by rw [encPs_snoc, List.length_append]; exact hown)
                have e3 : w4.cell? ⟨c, 3, none⟩ = some (.slice ao ps.length cap) := (step_cells G4.out.2).2.2.2
                have h3 : w4.frozen? ⟨c, 3, none⟩ = false := step_frozen G4.out.2 3
                clear hown hgrow hgl)
              all_goals
                have R5 := hid (G4.out.1.other c 3 HB.out.ne.2.2.1 HB.out.ne.2.2.2.2.1 (.slice (some ⟨g', 0, none⟩) (ps.length + 1) cap'))
                have C5 := step_set G4.out.2 3 (.slice (some ⟨g', 0, none⟩) (ps.length + 1) cap') (v' := .slice (some ⟨g', 0, none⟩) (ps.length + 1) cap') rfl
                have O5 := own_other O4.out G4.out.2 3 (.slice (some ⟨g', 0, none⟩) (ps.length + 1) cap')
                cases hx : L.thereB q n [93] with
                | false =>
                  have HX : Hid (L.thereB q n (ByteArray.mk #[93]).data.toList = false) := hid hx
                  have HR3 : Hid (Q.predsR q i ps.length = .error ((n : Int), 70)) := hid (by rw [HR2.out, if_pos hx])
                  clear hx
                  go_wp2_with fail
                  refine Calls.mono (must_no R5 hn ⟨#[93]⟩ HX) ?_
                  rintro e w5 ⟨rfl, R6⟩
                  have R6 := hid R6
                  go_wp2
                  go_ret
                  exact Or.inl ⟨n, 70, HR3.out, by decide, hn, rfl, R6.out⟩
                | true =>
                  have HX : Hid (L.thereB q n (ByteArray.mk #[93]).data.toList = true) := hid hx
                  have hn1 := there1_lt hn hx
                  have HR3 : Hid (Q.predsR q i ps.length = .ok (⟨5, 0, L.noB, pv⟩, n + 1)) := hid (by rw [HR2.out, if_neg (by rw [hx]; simp)])
                  clear hx
                  go_wp2_with fail
                  refine Calls.mono (must_yes (hid R5.out.here) hn hz ⟨#[93]⟩ HX) ?_
                  rintro e w5 ⟨rfl, R6⟩
                  have C6 := hid (R6.stays C5 HB.out.ne.2.2.1)
                  have O6 := hid (own_row R6 R5.out.obj O5)
                  have R7 : Hid (QM w0 b q (n + 1) V w5) := hid (R5.out.since R6)
                  go_wp2
                  go_ret
                  exact Or.inr ⟨_, n + 1, _, HR3.out, hn1, rfl, R7.out, C6.out, O6.out⟩
          | false =>
            have HL : Hid (L.thereB q (i + 1) (ByteArray.mk #[116, 101, 120, 116, 40, 41]).data.toList = false) := hid htx
            have HR3 : Hid (Q.predsR q i ps.length = .error (((i + 1 : Nat) : Int), 70)) := hid (by
              rw [HR.out]; unfold Q.predR; rw [if_neg (fun h => h HND.out), if_neg (by rw [hl]; simp), if_neg (by rw [hat]; simp), if_neg (by rw [htx]; simp)])
            clear hl hat htx HND HR
            go_wp2_with fail
            refine Calls.mono (passes_no (hid HB.out.qm.here) hi1 ⟨#[116, 101, 120, 116, 40, 41]⟩ HL) ?_
            rintro e w5 ⟨rfl, Ra⟩
            have HB := hid (HB.out.call Ra)
            go_wp2
            go_ret
            exact Or.inl ⟨i + 1, 70, HR3.out, by decide, hi1, rfl, HB.out.qm⟩
    · have hd' : (0 : Int) < (to : Int) - ((i + 1 : Nat) : Int) := by omega
      have hlt : i + 1 < to := by omega
      have HR2 : Hid (Q.predsR q i ps.length = match numR q (i + 1) to with
        | .error e => .error e
        | .ok (x, n) => if L.thereB q n [93] = false then .error ((n : Int), 70) else .ok (⟨1, x, L.noB, L.noB⟩, n + 1)) := hid (by
        rw [HR.out]; unfold Q.predR; rw [HD.out, if_pos hd]; cases numR q (i + 1) to <;> rfl)
      obtain ⟨p0, p1, p2, p3⟩ := pred_cells HB.out.pr
      have g0 := pred_frozen HB.out.pr 0
      have HB := hid (HB.out.put 0 (.int .i64 1) (p' := ⟨1, 0, L.noB, L.noB⟩) rfl)
      clear hd hto HR
      go_wp2_with fail
      clear p0 p1 p2 p3 g0
      generalize (w2.setCell ⟨B, 0, none⟩ (.int .i64 1)) = w3 at *
      refine Calls.mono (number_any (hid HB.out.qm.here) hi1 hz to HD hlt) ?_
      show ∀ e w', _ → _
      intro e w4 hres
      rcases hres with ⟨z, e0, u, h1, h2, h3, rfl, ⟨nn, rfl⟩, Ra⟩ | ⟨nn, n, h1, h3, rfl, Ra⟩
      · have HR3 : Hid (Q.predsR q i ps.length = .error ((z : Int), e0) ∧ e0 ≠ 0) := hid ⟨by rw [HR2.out, h1], h2⟩
        have HB5 := HB.out.call Ra
        obtain ⟨p0, p1, p2, p3⟩ := pred_cells HB5.pr
        have g1 := pred_frozen HB5.pr 1
        have b0 : (e0 == 0) = false := beq_eq_false_iff_ne.2 h2
        have HQ := hid (HB5.qm.other B 1 HB5.ne.1 HB5.ne.2.2.2.1 (.int .i64 nn))
        clear h1 h2 Ra HB5 HR2 HD
        go_wp2
        go_ret
        exact Or.inl ⟨z, e0, HR3.out.1, HR3.out.2, h3, rfl, HQ.out⟩
      · have HR2 : Hid (Q.predsR q i ps.length = if L.thereB q n [93] = false then .error ((n : Int), 70) else .ok (⟨1, nn, L.noB, L.noB⟩, n + 1)) := hid (by rw [HR2.out, h1])
        have hn : n ≤ q.size := h3
        have HB5 := HB.out.call Ra
        obtain ⟨p0, p1, p2, p3⟩ := pred_cells HB5.pr
        have g1 := pred_frozen HB5.pr 1
        have HB := hid (HB5.put 1 (.int .i64 nn) (p' := ⟨1, nn, L.noB, L.noB⟩) rfl)
        clear h1 Ra HB5 HD hlt hd'
        go_wp2_with fail
        clear p0 p1 p2 p3 g1
        generalize (w4.setCell ⟨B, 1, none⟩ (.int .i64 nn)) = W1 at *
        obtain ⟨p0, p1, p2, p3⟩ := pred_cells HB.out.pr
        obtain ⟨_, _, _, s3⟩ := step_cells HB.out.st
        have sf := step_frozen HB.out.st 3
        have hlt := lt_of_block HB.out.pr
        have clt := lt_of_block HB.out.st
        have n1 : B ≠ W1.heap.size := by omega
        have n2 : c ≠ W1.heap.size := by omega
        have HO1 : Hid ((W1.alloc (Obj.cells #[.int .i64 1, .int .i64 nn, .string L.noB, .string L.noB] 86)).drew.ownsRow w0.heap.size 86 4 (.slice ao ps.length cap) ps.length (encPs ps)) := hid (World.ownsRow.alloc HB.out.ow _)
        have HN : Hid (∀ t u, [Value.int .i64 1, .int .i64 nn, .string L.noB, .string L.noB][t]? = some u → (W1.alloc (Obj.cells #[.int .i64 1, .int .i64 nn, .string L.noB, .string L.noB] 86)).drew.cell? ((⟨W1.heap.size, 0, none⟩ : Addr).add t) = some u) :=
          hid (World.news_of_block (w := (W1.alloc (Obj.cells #[.int .i64 1, .int .i64 nn, .string L.noB, .string L.noB] 86)).drew) (cs := #[.int .i64 1, .int .i64 nn, .string L.noB, .string L.noB]) (heap_alloc_new W1 _))
        have q0 : (W1.alloc (Obj.cells #[.int .i64 1, .int .i64 nn, .string L.noB, .string L.noB] 86)).cell? ⟨B, 0, none⟩ = some (.int .i64 1) := by rw [World.cell?_alloc_past _ _ _ hlt]; exact p0
        have q1 : (W1.alloc (Obj.cells #[.int .i64 1, .int .i64 nn, .string L.noB, .string L.noB] 86)).cell? ⟨B, 1, none⟩ = some (.int .i64 nn) := by rw [World.cell?_alloc_past _ _ _ hlt]; exact p1
        have q2 : (W1.alloc (Obj.cells #[.int .i64 1, .int .i64 nn, .string L.noB, .string L.noB] 86)).cell? ⟨B, 2, none⟩ = some (.string L.noB) := by rw [World.cell?_alloc_past _ _ _ hlt]; exact p2
        have q3 : (W1.alloc (Obj.cells #[.int .i64 1, .int .i64 nn, .string L.noB, .string L.noB] 86)).cell? ⟨B, 3, none⟩ = some (.string L.noB) := by rw [World.cell?_alloc_past _ _ _ hlt]; exact p3
        have a3 : (W1.alloc (Obj.cells #[.int .i64 1, .int .i64 nn, .string L.noB, .string L.noB] 86)).cell? ⟨c, 3, none⟩ = some (.slice ao ps.length cap) := by rw [World.cell?_alloc_past _ _ _ clt]; exact s3
        have hm : Hid (ps.length + 1 ≤ maxLen ∧ (ps.length + 1) * 48 ≤ 140737488355328 ∧ w0.heap.size ≤ W1.heap.size + 1) := hid ⟨by unfold maxLen; omega, by omega, by have := HB.out.qm.size_le; omega⟩
        clear hlt clt
        go_region_law (
          refine step_append_lies _ rfl (.tmp 57) (.tmp 59) 76 rfl w0.heap.size 86 i0 (.agg #[.int .i64 0, .int .i64 0, .string ⟨#[]⟩, .string ⟨#[]⟩]) 4 48 Tryd.underlying76 I0.out I1.out I2.out I3.out rfl (by decide) _ ps.length (encPs ps) rfl HO1.out ⟨W1.heap.size, 0, none⟩ 1 1 [.int .i64 1, .int .i64 nn, .string L.noB, .string L.noB] rfl rfl HN.out (one_four _ _ _ _) (by decide) hm.out.1 hm.out.2.1 (by simpa using hm.out.2.2) (W1.heap.size + 1) (by simp) ?_
          intro g' cap' w4 hown hgrow hgl _
          have G4 := hid (HB.out.more (.cells #[.int .i64 1, .int .i64 nn, .string L.noB, .string L.noB] 86) hgrow)
          have O4 : Hid (w4.ownsRow w0.heap.size 86 4 (.slice (some ⟨g', 0, none⟩) (ps.length + 1) cap') (ps ++ [(⟨1, nn, L.noB, L.noB⟩ : Q.Pred)]).length (encPs (ps ++ [(⟨1, nn, L.noB, L.noB⟩ : Q.Pred)]))) := hid (by rw [encPs_snoc, List.length_append]; exact hown)
          have e3 : w4.cell? ⟨c, 3, none⟩ = some (.slice ao ps.length cap) := (step_cells G4.out.2).2.2.2
          have h3 : w4.frozen? ⟨c, 3, none⟩ = false := step_frozen G4.out.2 3
          clear hown hgrow hgl)
        all_goals
          have R5 := hid (G4.out.1.other c 3 HB.out.ne.2.2.1 HB.out.ne.2.2.2.2.1 (.slice (some ⟨g', 0, none⟩) (ps.length + 1) cap'))
          have C5 := step_set G4.out.2 3 (.slice (some ⟨g', 0, none⟩) (ps.length + 1) cap') (v' := .slice (some ⟨g', 0, none⟩) (ps.length + 1) cap') rfl
          have O5 := own_other O4.out G4.out.2 3 (.slice (some ⟨g', 0, none⟩) (ps.length + 1) cap')
          cases hx : L.thereB q n [93] with
          | false =>
            have HX : Hid (L.thereB q n (ByteArray.mk #[93]).data.toList = false) := hid hx
            have HR3 : Hid (Q.predsR q i ps.length = .error ((n : Int), 70)) := hid (by rw [HR2.out, if_pos hx])
            clear hx
            go_wp2_with fail
            refine Calls.mono (must_no R5 hn ⟨#[93]⟩ HX) ?_
            rintro e w5 ⟨rfl, R6⟩
            have R6 := hid R6
            go_wp2
            go_ret
            exact Or.inl ⟨n, 70, HR3.out, by decide, hn, rfl, R6.out⟩
          | true =>
            have HX : Hid (L.thereB q n (ByteArray.mk #[93]).data.toList = true) := hid hx
            have hn1 := there1_lt hn hx
            have HR3 : Hid (Q.predsR q i ps.length = .ok (⟨1, nn, L.noB, L.noB⟩, n + 1)) := hid (by rw [HR2.out, if_neg (by rw [hx]; simp)])
            clear hx
            go_wp2_with fail
            refine Calls.mono (must_yes (hid R5.out.here) hn hz ⟨#[93]⟩ HX) ?_
            rintro e w5 ⟨rfl, R6⟩
            have C6 := hid (R6.stays C5 HB.out.ne.2.2.1)
            have O6 := hid (own_row R6 R5.out.obj O5)
            have R7 : Hid (QM w0 b q (n + 1) V w5) := hid (R5.out.since R6)
            go_wp2
            go_ret
            exact Or.inr ⟨_, n + 1, _, HR3.out, hn1, rfl, R7.out, C6.out, O6.out⟩
end
end Go.Proofs.YtmgemdhpjibdiaaDoor
