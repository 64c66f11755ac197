/- The walk of grove's Move where something is amiss. -/
import Derived.Test.YtidccohjehegjaaDoorK11
import Derived.Test.YtidccohjehegjaaDoorK6
import Derived.Test.YtidccohjehegjaaDoorK9
import Derived.Test.YtidccohjehegjaaDoorNCutK
import Derived.Test.YtidccohjehegjaaDoorNInsK
namespace Go.Proofs.YtidccohjehegjaaDoor
open Go.RowKit Go.Shelf
namespace N
open T
/-- The place past the last that a node may be moved to. -/
def othersE (e ep : Nd) : Int := if e.par = ep.id then (ep.kids.length : Int) - 1 else (ep.kids.length : Int)
/-- What is amiss with a node as another one's kid. -/
def unmovE (f : F) (e ep : Nd) (at' : Int) : Int :=
  if e.id = rootF f then 62
  else if ep.x.kind = 2 then 68
  else if e.id ∈ (chain f 0 ep.id).map (·.id) then 61
  else if at' < 0 ∨ othersE e ep < at' then 69
  else if 40 ≤ ((chain f 0 ep.id).length : Int) + high ((rows (sub f e.id) 0).map (·.2.level)) then 65
  else 0
theorem high_le : ∀ (l : List Int) (a b : Int), a ≤ b → (∀ x ∈ l, x ≤ b) → l.foldl max a ≤ b
  | [], _, _, h, _ => h
  | x :: l, a, b, h, hx => high_le l _ b (by have := hx x (List.mem_cons_self ..); show max a x ≤ b; omega) fun y hy => hx y (List.mem_cons_of_mem _ hy)
theorem high_ge : ∀ (l : List Int) (a : Int), a ≤ l.foldl max a
  | [], _ => Int.le_refl _
  | x :: l, a => Int.le_trans (by show a ≤ max a x; omega) (high_ge l (max a x))
theorem rows_level : ∀ (f : F) (n : Int), ∀ r ∈ rows f n, r.2.level ≤ n + (ids f).length
  | none, _, r, h => by simp [rows] at h
  | some ⟨i, x, k, s⟩, n, r, h => by
    rw [rows, List.mem_cons, List.mem_append] at h
    rw [ids, List.length_cons, List.length_append]
    rcases h with h | h | h
    · rw [h]; show n ≤ _; omega
    · have := rows_level k (n + 1) r h; omega
    · have := rows_level s n r h; omega
section
variable {B tb mb : Nat} {f : F} {nx : Int} {L : List NS} {w : World}
set_option maxRecDepth 100000 in
set_option maxHeartbeats 4000000 in
theorem unmov_any (h : Hid (TreeIn B tb mb f nx L w)) (hf : Hid (Fine f)) (e ep : Nd) (s sp : Slot) (hm : Hid ((e, s) ∈ L)) (hmp : Hid ((ep, sp) ∈ L)) (hem : e.id ∈ ids f) (hepm : ep.id ∈ ids f) (at' : Int) (r : Int) (HR : Hid (unmovE f e ep at' = r)) :
    Calls Tryd.prog 38 #[.pointer (some ⟨tb, 0, none⟩), .pointer (some ⟨s.g, 0, none⟩), .pointer (some ⟨sp.g, 0, none⟩), .int .i64 at'] w fun q w' => q = .returned (.int .i64 r) ∧ Below w.heap.size w w' := by
  obtain ⟨e0, e1, _⟩ := (h.out.graph.nodes _ hm.out).cells
  obtain ⟨p0, _, p2, _, _, _, _, p7⟩ := (h.out.graph.nodes _ hmp.out).cells
  obtain ⟨ka, kc, hkv⟩ := slice_of (h.out.graph.nodes _ hmp.out).kids
  dsimp only at e0 e1 p0 p2 p7 hkv
  rw [hkv] at p7
  obtain ⟨c0, c1, c2⟩ := h.out.cells
  obtain ⟨ot, HOT⟩ : ∃ ot, Hid (othersE e ep = ot) := ⟨_, hid rfl⟩
  have hr := HR.out
  unfold unmovE at hr
  rw [HOT.out] at hr
  have HRR := hid hr
  have hk64 : (ep.kids.length : Int) ≤ 9223372036854775807 := by
    have := (h.out.graph.nodes _ hmp.out).kids
    rcases this.2 with ⟨_, q⟩ | ⟨g, cap, cur, _, _, _, q1, q2, _⟩
    · dsimp only at q; omega
    · have : cap ≤ 9223372036854775807 := q2
      dsimp only at q1
      omega
  have HOT2 := HOT.out
  unfold othersE at HOT2
  have KK : Hid (∀ (w0 : World) m, TreeIn B tb mb f nx L w0 ∧ Below w.heap.size w w0 → TreeIn B tb mb f nx L (w0.drewN m) ∧ Below w.heap.size w (w0.drewN m)) := hid fun w0 m q => ⟨q.1.below (below_drewN (Below.refl _ w0) m), below_drewN q.2 m⟩
  clear hr HR hkv HOT
  go_enter Tryd.func38, Tryd.ntmps38
  go_wp2
  go_quiet (fail)
  by_cases q1 : e.par = ep.id
  · have q1' : (e.par == ep.id) = true := by simpa using q1
    rw [if_pos q1] at HOT2
    clear q1
    have K1 := KK.out w nq ⟨h.out, Below.refl _ _⟩
    generalize w.drewN nq = w1 at K1 ⊢
    obtain ⟨T1, B1⟩ := K1
    obtain ⟨e0, _⟩ := (T1.graph.nodes _ hm.out).cells
    obtain ⟨p0, _, p2, _⟩ := (T1.graph.nodes _ hmp.out).cells
    obtain ⟨_, c1, _⟩ := T1.cells
    dsimp only at e0 p0 p2
    have HT1 := hid T1
    have HB1 := hid B1
    clear T1 B1
    go_wp2
    go_quiet (fail)
    have K2 := KK.out w1 nq ⟨HT1.out, HB1.out⟩
    clear HT1 HB1 e0 p0 p2 c1
    generalize w1.drewN nq = w2 at K2 ⊢
    obtain ⟨T2, B2⟩ := K2
    obtain ⟨e0, _⟩ := (T2.graph.nodes _ hm.out).cells
    obtain ⟨p0, _, p2, _⟩ := (T2.graph.nodes _ hmp.out).cells
    dsimp only at e0 p0 p2
    have HT2 := hid T2
    have HB2 := hid B2
    have HS0 : Hid (w2.drew.cell? ⟨s.g, 0, none⟩ = some (.int .i64 e.id) ∧ w2.drew.cell? ⟨sp.g, 0, none⟩ = some (.int .i64 ep.id)) := hid ⟨e0, p0⟩
    clear T2 B2 e0 p0
    by_cases q2 : e.id = rootF f
    · have q2' : (e.id == rootF f) = true := by simpa using q2
      have hr := HRR.out
      rw [if_pos q2] at hr
      subst hr
      clear q2 HRR
      go_wp2
      go_ret
      exact ⟨rfl, HB2.out⟩
    · have q2' : (e.id == rootF f) = false := by simpa using q2
      have hr := HRR.out
      rw [if_neg q2] at hr
      by_cases q3 : ep.x.kind = 2
      · have q3' : (ep.x.kind == 2) = true := by simpa using q3
        rw [if_pos q3] at hr
        subst hr
        clear q2 q3 HRR
        go_wp2
        go_ret
        exact ⟨rfl, HB2.out⟩
      · have q3' : (ep.x.kind == 2) = false := by simpa using q3
        rw [if_neg q3] at hr
        have HR2 := hid hr
        clear q2 q3 hr HRR
        go_wp2_with fail
        refine till_begin (z := 12) (S := fun w' => w'.cell? ⟨s.g, 0, none⟩ = some (.int .i64 e.id) ∧ w'.cell? ⟨sp.g, 0, none⟩ = some (.int .i64 ep.id)) (by kernel_rfl) ?_
        refine till_free (i := 0) (v := ?_) rfl (by kernel_rfl) (by kernel_rfl) (by kernel_rfl) (by kernel_rfl) (fun _ _ _ h => h) (Or.inl ⟨by rfl, ?_⟩) HS0.out ?_
        rotate_left
        · intro w' hs; go_simp; (try with_reducible rfl)
        refine till_free (i := 1) (v := ?_) rfl (by kernel_rfl) (by kernel_rfl) (by kernel_rfl) (by kernel_rfl) (fun _ _ _ h => h) (Or.inl ⟨by rfl, ?_⟩) HS0.out ?_
        rotate_left
        · intro w' hs; go_simp; (try with_reducible rfl)
        refine till_free (i := 2) (v := ?_) rfl (by kernel_rfl) (by kernel_rfl) (by kernel_rfl) (by kernel_rfl) (fun _ _ _ h => h) (Or.inl ⟨by rfl, ?_⟩) HS0.out ?_
        rotate_left
        · intro w' hs; go_simp; (try with_reducible rfl)
        refine till_free (i := 3) (v := ?_) rfl (by kernel_rfl) (by kernel_rfl) (by kernel_rfl) (by kernel_rfl) (fun _ _ _ h => h) (Or.inl ⟨by rfl, ?_⟩) HS0.out ?_
        rotate_left
        · intro w' hs; go_simp; (try with_reducible rfl)
        refine till_free (i := 4) (v := ?_) rfl (by kernel_rfl) (by kernel_rfl) (by kernel_rfl) (by kernel_rfl) (fun _ _ _ h => h) (Or.inl ⟨by rfl, ?_⟩) HS0.out ?_
        rotate_left
        · intro w' hs; go_simp; (try with_reducible rfl)
        refine till_via [11, 12] (i := 5) (v := ?_) rfl (by kernel_rfl) (by kernel_rfl) (by kernel_rfl) (by kernel_rfl) (fun _ _ _ h => h) (Or.inl ⟨by rfl, ?_⟩) HS0.out ?_
        rotate_left
        · intro w' hs; obtain ⟨s0, s1⟩ := hs; go_simp; (try with_reducible rfl)
        refine till_free (i := 6) (v := ?_) rfl (by kernel_rfl) (by kernel_rfl) (by kernel_rfl) (by kernel_rfl) (fun _ _ _ h => h) (Or.inl ⟨by rfl, ?_⟩) HS0.out ?_
        rotate_left
        · intro w' hs; go_simp; (try with_reducible rfl)
        refine till_free (i := 7) (v := ?_) rfl (by kernel_rfl) (by kernel_rfl) (by kernel_rfl) (by kernel_rfl) (fun _ _ _ h => h) (Or.inl ⟨by rfl, ?_⟩) HS0.out ?_
        rotate_left
        · intro w' hs; go_simp; (try with_reducible rfl)
        refine till_free (i := 8) (v := ?_) rfl (by kernel_rfl) (by kernel_rfl) (by kernel_rfl) (by kernel_rfl) (fun _ _ _ h => h) (Or.inl ⟨by rfl, ?_⟩) HS0.out ?_
        rotate_left
        · intro w' hs; go_simp; (try with_reducible rfl)
        refine till_free (i := 9) (v := ?_) rfl (by kernel_rfl) (by kernel_rfl) (by kernel_rfl) (by kernel_rfl) (fun _ _ _ h => h) (Or.inl ⟨by rfl, ?_⟩) HS0.out ?_
        rotate_left
        · intro w' hs; go_simp; (try with_reducible rfl)
        refine till_via [11, 12] (i := 10) (v := ?_) rfl (by kernel_rfl) (by kernel_rfl) (by kernel_rfl) (by kernel_rfl) (fun _ _ _ h => h) (Or.inl ⟨by rfl, ?_⟩) HS0.out ?_
        rotate_left
        · intro w' hs; obtain ⟨s0, s1⟩ := hs; go_simp; (try with_reducible rfl)
        have WI := hid (within_any (hid (HT2.out.below (Below.refl _ w2).drew)) hf ep.id e.id (hf.out.wf _ hepm))
        refine till_call (i := 11) (by kernel_rfl) rfl rfl 54 _ _ rfl (enters_of Tryd.func54 (by kernel_rfl) rfl) #[.pointer (some ⟨tb, 0, none⟩), .int .i64 ep.id, .int .i64 e.id] (by kernel_rfl) (fun v w' => v = .bool (decide (e.id ∈ (chain f 0 ep.id).map (·.id))) ∧ Below w2.drew.heap.size w2.drew w') (WI.out.mono (by rintro q w' ⟨rfl, hb⟩; exact ⟨_, rfl, rfl, hb⟩)) ?_
        rintro v w3 ⟨rfl, hb3⟩
        have HB3 := hid (HB2.out.trans (((Below.refl _ w2).drew.trans hb3).mono HB2.out.size))
        have HT3 := hid ((HT2.out.below (Below.refl _ w2).drew).below hb3)
        have HS1 : Hid (w3.cell? ⟨s.g, 0, none⟩ = some (.int .i64 e.id) ∧ w3.cell? ⟨sp.g, 0, none⟩ = some (.int .i64 ep.id)) := hid ⟨((HT3.out.graph.nodes _ hm.out).cells).1, ((HT3.out.graph.nodes _ hmp.out).cells).1⟩
        refine ⟨HS1.out, ?_⟩
        clear hb3 WI
        obtain ⟨bo, HBO⟩ : ∃ bo, Hid (decide (e.id ∈ (chain f 0 ep.id).map (·.id)) = bo) := ⟨_, hid rfl⟩
        rw [HBO.out]
        refine till_value (i := 12) (v := .bool bo) (w' := w3) (by kernel_rfl) rfl rfl ?_ HS1.out ?_
        · go_simp
        refine till_done (by kernel_rfl) ?_ _
        rename_i K2 hK2
        refine hK2 _ _ ?_
        go_simp
        by_cases q4 : e.id ∈ (chain f 0 ep.id).map (·.id)
        · have hbo := HBO.out
          rw [decide_eq_true q4] at hbo
          subst hbo
          have hr := HR2.out
          rw [if_pos q4] at hr
          subst hr
          clear HR2 HBO q4 HS0 HS1
          go_wp2
          go_ret
          exact ⟨rfl, HB3.out⟩
        · have hbo := HBO.out
          rw [decide_eq_false q4] at hbo
          subst hbo
          have hr := HR2.out
          rw [if_neg q4] at hr
          have HR4 := hid hr
          clear HR2 HBO q4 hr HS0
          by_cases q5 : at' < 0
          · have hr := HR4.out
            rw [if_pos (Or.inl q5)] at hr
            subst hr
            clear HR4 HS1
            go_wp2
            go_ret
            exact ⟨rfl, HB3.out⟩
          · by_cases q6 : ot < at'
            · have hr := HR4.out
              rw [if_pos (Or.inr q6)] at hr
              subst hr
              clear HR4 HS1
              go_wp2
              go_ret
              exact ⟨rfl, HB3.out⟩
            · have hr := HR4.out
              rw [if_neg (fun z => z.elim q5 q6)] at hr
              have HR5 := hid hr
              clear HR4 hr
              go_wp2_with fail
              have HS2 : Hid (w3.drew.cell? ⟨s.g, 0, none⟩ = some (.int .i64 e.id) ∧ w3.drew.cell? ⟨sp.g, 0, none⟩ = some (.int .i64 ep.id)) := hid HS1.out
              refine till_begin (z := 16) (S := fun w' => w'.cell? ⟨s.g, 0, none⟩ = some (.int .i64 e.id) ∧ w'.cell? ⟨sp.g, 0, none⟩ = some (.int .i64 ep.id)) (by kernel_rfl) ?_
              refine till_free (i := 0) (v := ?_) rfl (by kernel_rfl) (by kernel_rfl) (by kernel_rfl) (by kernel_rfl) (fun _ _ _ h => h) (Or.inl ⟨by rfl, ?_⟩) HS2.out ?_
              rotate_left
              · intro w' hs; go_simp; (try with_reducible rfl)
              refine till_free (i := 1) (v := ?_) rfl (by kernel_rfl) (by kernel_rfl) (by kernel_rfl) (by kernel_rfl) (fun _ _ _ h => h) (Or.inl ⟨by rfl, ?_⟩) HS2.out ?_
              rotate_left
              · intro w' hs; go_simp; (try with_reducible rfl)
              refine till_free (i := 2) (v := ?_) rfl (by kernel_rfl) (by kernel_rfl) (by kernel_rfl) (by kernel_rfl) (fun _ _ _ h => h) (Or.inl ⟨by rfl, ?_⟩) HS2.out ?_
              rotate_left
              · intro w' hs; go_simp; (try with_reducible rfl)
              refine till_free (i := 3) (v := ?_) rfl (by kernel_rfl) (by kernel_rfl) (by kernel_rfl) (by kernel_rfl) (fun _ _ _ h => h) (Or.inl ⟨by rfl, ?_⟩) HS2.out ?_
              rotate_left
              · intro w' hs; go_simp; (try with_reducible rfl)
              refine till_free (i := 4) (v := ?_) rfl (by kernel_rfl) (by kernel_rfl) (by kernel_rfl) (by kernel_rfl) (fun _ _ _ h => h) (Or.inl ⟨by rfl, ?_⟩) HS2.out ?_
              rotate_left
              · intro w' hs; go_simp; (try with_reducible rfl)
              refine till_via [6, 14, 15, 16] (i := 5) (v := ?_) rfl (by kernel_rfl) (by kernel_rfl) (by kernel_rfl) (by kernel_rfl) (fun _ _ _ h => h) (Or.inl ⟨by rfl, ?_⟩) HS2.out ?_
              rotate_left
              · intro w' hs; obtain ⟨s0, s1⟩ := hs; go_simp; (try with_reducible rfl)
              refine till_free (i := 7) (v := ?_) rfl (by kernel_rfl) (by kernel_rfl) (by kernel_rfl) (by kernel_rfl) (fun _ _ _ h => h) (Or.inl ⟨by rfl, ?_⟩) HS2.out ?_
              rotate_left
              · intro w' hs; go_simp; (try with_reducible rfl)
              refine till_free (i := 8) (v := ?_) rfl (by kernel_rfl) (by kernel_rfl) (by kernel_rfl) (by kernel_rfl) (fun _ _ _ h => h) (Or.inl ⟨by rfl, ?_⟩) HS2.out ?_
              rotate_left
              · intro w' hs; go_simp; (try with_reducible rfl)
              refine till_free (i := 9) (v := ?_) rfl (by kernel_rfl) (by kernel_rfl) (by kernel_rfl) (by kernel_rfl) (fun _ _ _ h => h) (Or.inl ⟨by rfl, ?_⟩) HS2.out ?_
              rotate_left
              · intro w' hs; go_simp; (try with_reducible rfl)
              refine till_free (i := 10) (v := ?_) rfl (by kernel_rfl) (by kernel_rfl) (by kernel_rfl) (by kernel_rfl) (fun _ _ _ h => h) (Or.inl ⟨by rfl, ?_⟩) HS2.out ?_
              rotate_left
              · intro w' hs; go_simp; (try with_reducible rfl)
              refine till_free (i := 11) (v := ?_) rfl (by kernel_rfl) (by kernel_rfl) (by kernel_rfl) (by kernel_rfl) (fun _ _ _ h => h) (Or.inl ⟨by rfl, ?_⟩) HS2.out ?_
              rotate_left
              · intro w' hs; go_simp; (try with_reducible rfl)
              refine till_via [13, 14, 15, 16] (i := 12) (v := ?_) rfl (by kernel_rfl) (by kernel_rfl) (by kernel_rfl) (by kernel_rfl) (fun _ _ _ h => h) (Or.inl ⟨by rfl, ?_⟩) HS2.out ?_
              rotate_left
              · intro w' hs; obtain ⟨s0, s1⟩ := hs; go_simp; (try with_reducible rfl)
              have KL := hid (kidLevel_any (hid (HT3.out.below (Below.refl _ w3).drew)) hf ep.id (hf.out.wf _ hepm))
              refine till_call (i := 6) (by kernel_rfl) rfl rfl 51 _ _ rfl (enters_of Tryd.func51 (by kernel_rfl) rfl) #[.pointer (some ⟨tb, 0, none⟩), .int .i64 ep.id] (by kernel_rfl) (fun v w' => v = .int .i64 ((chain f 0 ep.id).length : Int) ∧ Below w3.drew.heap.size w3.drew w') (KL.out.mono (by rintro q w' ⟨rfl, hb⟩; exact ⟨_, rfl, rfl, hb⟩)) ?_
              rintro v w4 ⟨rfl, hb4⟩
              have HB4 := hid (HB3.out.trans (((Below.refl _ w3).drew.trans hb4).mono HB3.out.size))
              have HT4 := hid ((HT3.out.below (Below.refl _ w3).drew).below hb4)
              have HS3 : Hid (w4.cell? ⟨s.g, 0, none⟩ = some (.int .i64 e.id) ∧ w4.cell? ⟨sp.g, 0, none⟩ = some (.int .i64 ep.id)) := hid ⟨((HT4.out.graph.nodes _ hm.out).cells).1, ((HT4.out.graph.nodes _ hmp.out).cells).1⟩
              refine ⟨HS3.out, ?_⟩
              have HI := hid (height_any HT4 hf e.id (hf.out.wf _ hem))
              refine till_call (i := 13) (by kernel_rfl) rfl rfl 55 _ _ rfl (enters_of Tryd.func55 (by kernel_rfl) rfl) #[.pointer (some ⟨tb, 0, none⟩), .int .i64 e.id] (by kernel_rfl) (fun v w' => v = .int .i64 (high ((rows (sub f e.id) 0).map (·.2.level))) ∧ Below w4.heap.size w4 w') (HI.out.mono (by rintro q w' ⟨rfl, hb⟩; exact ⟨_, rfl, rfl, hb⟩)) ?_
              rintro v w5 ⟨rfl, hb5⟩
              have HB5 := hid (HB4.out.trans (hb5.mono HB4.out.size))
              have HS4 : Hid (w5.cell? ⟨s.g, 0, none⟩ = some (.int .i64 e.id) ∧ w5.cell? ⟨sp.g, 0, none⟩ = some (.int .i64 ep.id)) := hid ⟨(((HT4.out.below hb5).graph.nodes _ hm.out).cells).1, (((HT4.out.below hb5).graph.nodes _ hmp.out).cells).1⟩
              refine ⟨HS4.out, ?_⟩
              have hup : (chain f 0 ep.id).length ≤ 100000 := by
                have h1 := chain_len f 0 ep.id
                have h2 := hf.out.len
                omega
              have hhi : 0 ≤ high ((rows (sub f e.id) 0).map (·.2.level)) ∧ high ((rows (sub f e.id) 0).map (·.2.level)) ≤ 100000 := by
                refine ⟨high_ge _ 0, high_le _ 0 _ (by omega) fun x hx => ?_⟩
                obtain ⟨y, hy, rfl⟩ := List.mem_map.1 hx
                have h1 := rows_level (sub f e.id) 0 y hy
                have h2 := (sub_nodup f e.id hf.out.nd).2
                have h3 := hf.out.len
                omega
              have hr := HR5.out
              clear HR5 KL HI hb4 hb5
              generalize (chain f 0 ep.id).length = up at *
              generalize high ((rows (sub f e.id) 0).map (·.2.level)) = hi at *
              obtain ⟨hh1, hh2⟩ := hhi
              refine till_value (i := 14) (v := .int .i64 ((up : Int) + hi)) (w' := w5) (by kernel_rfl) rfl rfl ?_ HS4.out ?_
              · go_simp
                rw [IntKind.wrap_i64]
                omega
              refine till_value (i := 15) (v := .bool (decide (40 ≤ (up : Int) + hi))) (w' := w5) (by kernel_rfl) rfl rfl ?_ HS4.out ?_
              · go_simp
              refine till_value (i := 16) (v := .bool (decide (40 ≤ (up : Int) + hi))) (w' := w5) (by kernel_rfl) rfl rfl ?_ HS4.out ?_
              · go_simp
              refine till_done (by kernel_rfl) ?_ _
              clear HS1 HS2 HS3 HS4
              rename_i K3 hK3
              refine hK3 _ _ ?_
              go_simp
              by_cases q7 : 40 ≤ (up : Int) + hi
              · rw [if_pos q7] at hr
                subst hr
                rw [decide_eq_true q7]
                go_wp2
                go_ret
                exact ⟨rfl, HB5.out⟩
              · rw [if_neg q7] at hr
                subst hr
                rw [decide_eq_false q7]
                go_wp2
                go_ret
                exact ⟨rfl, HB5.out⟩
  · have q1' : (e.par == ep.id) = false := by simpa using q1
    rw [if_neg q1] at HOT2
    clear q1
    have K1 := KK.out w nq ⟨h.out, Below.refl _ _⟩
    generalize w.drewN nq = w1 at K1 ⊢
    obtain ⟨T1, B1⟩ := K1
    obtain ⟨e0, _⟩ := (T1.graph.nodes _ hm.out).cells
    obtain ⟨p0, _, p2, _⟩ := (T1.graph.nodes _ hmp.out).cells
    obtain ⟨_, c1, _⟩ := T1.cells
    dsimp only at e0 p0 p2
    have HT1 := hid T1
    have HB1 := hid B1
    clear T1 B1
    go_wp2
    go_quiet (fail)
    have K2 := KK.out w1 nq ⟨HT1.out, HB1.out⟩
    clear HT1 HB1 e0 p0 p2 c1
    generalize w1.drewN nq = w2 at K2 ⊢
    obtain ⟨T2, B2⟩ := K2
    obtain ⟨e0, _⟩ := (T2.graph.nodes _ hm.out).cells
    obtain ⟨p0, _, p2, _⟩ := (T2.graph.nodes _ hmp.out).cells
    dsimp only at e0 p0 p2
    have HT2 := hid T2
    have HB2 := hid B2
    have HS0 : Hid (w2.drew.cell? ⟨s.g, 0, none⟩ = some (.int .i64 e.id) ∧ w2.drew.cell? ⟨sp.g, 0, none⟩ = some (.int .i64 ep.id)) := hid ⟨e0, p0⟩
    clear T2 B2 e0 p0
    by_cases q2 : e.id = rootF f
    · have q2' : (e.id == rootF f) = true := by simpa using q2
      have hr := HRR.out
      rw [if_pos q2] at hr
      subst hr
      clear q2 HRR
      go_wp2
      go_ret
      exact ⟨rfl, HB2.out⟩
    · have q2' : (e.id == rootF f) = false := by simpa using q2
      have hr := HRR.out
      rw [if_neg q2] at hr
      by_cases q3 : ep.x.kind = 2
      · have q3' : (ep.x.kind == 2) = true := by simpa using q3
        rw [if_pos q3] at hr
        subst hr
        clear q2 q3 HRR
        go_wp2
        go_ret
        exact ⟨rfl, HB2.out⟩
      · have q3' : (ep.x.kind == 2) = false := by simpa using q3
        rw [if_neg q3] at hr
        have HR2 := hid hr
        clear q2 q3 hr HRR
        go_wp2_with fail
        refine till_begin (z := 12) (S := fun w' => w'.cell? ⟨s.g, 0, none⟩ = some (.int .i64 e.id) ∧ w'.cell? ⟨sp.g, 0, none⟩ = some (.int .i64 ep.id)) (by kernel_rfl) ?_
        refine till_free (i := 0) (v := ?_) rfl (by kernel_rfl) (by kernel_rfl) (by kernel_rfl) (by kernel_rfl) (fun _ _ _ h => h) (Or.inl ⟨by rfl, ?_⟩) HS0.out ?_
        rotate_left
        · intro w' hs; go_simp; (try with_reducible rfl)
        refine till_free (i := 1) (v := ?_) rfl (by kernel_rfl) (by kernel_rfl) (by kernel_rfl) (by kernel_rfl) (fun _ _ _ h => h) (Or.inl ⟨by rfl, ?_⟩) HS0.out ?_
        rotate_left
        · intro w' hs; go_simp; (try with_reducible rfl)
        refine till_free (i := 2) (v := ?_) rfl (by kernel_rfl) (by kernel_rfl) (by kernel_rfl) (by kernel_rfl) (fun _ _ _ h => h) (Or.inl ⟨by rfl, ?_⟩) HS0.out ?_
        rotate_left
        · intro w' hs; go_simp; (try with_reducible rfl)
        refine till_free (i := 3) (v := ?_) rfl (by kernel_rfl) (by kernel_rfl) (by kernel_rfl) (by kernel_rfl) (fun _ _ _ h => h) (Or.inl ⟨by rfl, ?_⟩) HS0.out ?_
        rotate_left
        · intro w' hs; go_simp; (try with_reducible rfl)
        refine till_free (i := 4) (v := ?_) rfl (by kernel_rfl) (by kernel_rfl) (by kernel_rfl) (by kernel_rfl) (fun _ _ _ h => h) (Or.inl ⟨by rfl, ?_⟩) HS0.out ?_
        rotate_left
        · intro w' hs; go_simp; (try with_reducible rfl)
        refine till_via [11, 12] (i := 5) (v := ?_) rfl (by kernel_rfl) (by kernel_rfl) (by kernel_rfl) (by kernel_rfl) (fun _ _ _ h => h) (Or.inl ⟨by rfl, ?_⟩) HS0.out ?_
        rotate_left
        · intro w' hs; obtain ⟨s0, s1⟩ := hs; go_simp; (try with_reducible rfl)
        refine till_free (i := 6) (v := ?_) rfl (by kernel_rfl) (by kernel_rfl) (by kernel_rfl) (by kernel_rfl) (fun _ _ _ h => h) (Or.inl ⟨by rfl, ?_⟩) HS0.out ?_
        rotate_left
        · intro w' hs; go_simp; (try with_reducible rfl)
        refine till_free (i := 7) (v := ?_) rfl (by kernel_rfl) (by kernel_rfl) (by kernel_rfl) (by kernel_rfl) (fun _ _ _ h => h) (Or.inl ⟨by rfl, ?_⟩) HS0.out ?_
        rotate_left
        · intro w' hs; go_simp; (try with_reducible rfl)
        refine till_free (i := 8) (v := ?_) rfl (by kernel_rfl) (by kernel_rfl) (by kernel_rfl) (by kernel_rfl) (fun _ _ _ h => h) (Or.inl ⟨by rfl, ?_⟩) HS0.out ?_
        rotate_left
        · intro w' hs; go_simp; (try with_reducible rfl)
        refine till_free (i := 9) (v := ?_) rfl (by kernel_rfl) (by kernel_rfl) (by kernel_rfl) (by kernel_rfl) (fun _ _ _ h => h) (Or.inl ⟨by rfl, ?_⟩) HS0.out ?_
        rotate_left
        · intro w' hs; go_simp; (try with_reducible rfl)
        refine till_via [11, 12] (i := 10) (v := ?_) rfl (by kernel_rfl) (by kernel_rfl) (by kernel_rfl) (by kernel_rfl) (fun _ _ _ h => h) (Or.inl ⟨by rfl, ?_⟩) HS0.out ?_
        rotate_left
        · intro w' hs; obtain ⟨s0, s1⟩ := hs; go_simp; (try with_reducible rfl)
        have WI := hid (within_any (hid (HT2.out.below (Below.refl _ w2).drew)) hf ep.id e.id (hf.out.wf _ hepm))
        refine till_call (i := 11) (by kernel_rfl) rfl rfl 54 _ _ rfl (enters_of Tryd.func54 (by kernel_rfl) rfl) #[.pointer (some ⟨tb, 0, none⟩), .int .i64 ep.id, .int .i64 e.id] (by kernel_rfl) (fun v w' => v = .bool (decide (e.id ∈ (chain f 0 ep.id).map (·.id))) ∧ Below w2.drew.heap.size w2.drew w') (WI.out.mono (by rintro q w' ⟨rfl, hb⟩; exact ⟨_, rfl, rfl, hb⟩)) ?_
        rintro v w3 ⟨rfl, hb3⟩
        have HB3 := hid (HB2.out.trans (((Below.refl _ w2).drew.trans hb3).mono HB2.out.size))
        have HT3 := hid ((HT2.out.below (Below.refl _ w2).drew).below hb3)
        have HS1 : Hid (w3.cell? ⟨s.g, 0, none⟩ = some (.int .i64 e.id) ∧ w3.cell? ⟨sp.g, 0, none⟩ = some (.int .i64 ep.id)) := hid ⟨((HT3.out.graph.nodes _ hm.out).cells).1, ((HT3.out.graph.nodes _ hmp.out).cells).1⟩
        refine ⟨HS1.out, ?_⟩
        clear hb3 WI
        obtain ⟨bo, HBO⟩ : ∃ bo, Hid (decide (e.id ∈ (chain f 0 ep.id).map (·.id)) = bo) := ⟨_, hid rfl⟩
        rw [HBO.out]
        refine till_value (i := 12) (v := .bool bo) (w' := w3) (by kernel_rfl) rfl rfl ?_ HS1.out ?_
        · go_simp
        refine till_done (by kernel_rfl) ?_ _
        rename_i K2 hK2
        refine hK2 _ _ ?_
        go_simp
        by_cases q4 : e.id ∈ (chain f 0 ep.id).map (·.id)
        · have hbo := HBO.out
          rw [decide_eq_true q4] at hbo
          subst hbo
          have hr := HR2.out
          rw [if_pos q4] at hr
          subst hr
          clear HR2 HBO q4 HS0 HS1
          go_wp2
          go_ret
          exact ⟨rfl, HB3.out⟩
        · have hbo := HBO.out
          rw [decide_eq_false q4] at hbo
          subst hbo
          have hr := HR2.out
          rw [if_neg q4] at hr
          have HR4 := hid hr
          clear HR2 HBO q4 hr HS0
          by_cases q5 : at' < 0
          · have hr := HR4.out
            rw [if_pos (Or.inl q5)] at hr
            subst hr
            clear HR4 HS1
            go_wp2
            go_ret
            exact ⟨rfl, HB3.out⟩
          · by_cases q6 : ot < at'
            · have hr := HR4.out
              rw [if_pos (Or.inr q6)] at hr
              subst hr
              clear HR4 HS1
              go_wp2
              go_ret
              exact ⟨rfl, HB3.out⟩
            · have hr := HR4.out
              rw [if_neg (fun z => z.elim q5 q6)] at hr
              have HR5 := hid hr
              clear HR4 hr
              go_wp2_with fail
              have HS2 : Hid (w3.drew.cell? ⟨s.g, 0, none⟩ = some (.int .i64 e.id) ∧ w3.drew.cell? ⟨sp.g, 0, none⟩ = some (.int .i64 ep.id)) := hid HS1.out
              refine till_begin (z := 16) (S := fun w' => w'.cell? ⟨s.g, 0, none⟩ = some (.int .i64 e.id) ∧ w'.cell? ⟨sp.g, 0, none⟩ = some (.int .i64 ep.id)) (by kernel_rfl) ?_
              refine till_free (i := 0) (v := ?_) rfl (by kernel_rfl) (by kernel_rfl) (by kernel_rfl) (by kernel_rfl) (fun _ _ _ h => h) (Or.inl ⟨by rfl, ?_⟩) HS2.out ?_
              rotate_left
              · intro w' hs; go_simp; (try with_reducible rfl)
              refine till_free (i := 1) (v := ?_) rfl (by kernel_rfl) (by kernel_rfl) (by kernel_rfl) (by kernel_rfl) (fun _ _ _ h => h) (Or.inl ⟨by rfl, ?_⟩) HS2.out ?_
              rotate_left
              · intro w' hs; go_simp; (try with_reducible rfl)
              refine till_free (i := 2) (v := ?_) rfl (by kernel_rfl) (by kernel_rfl) (by kernel_rfl) (by kernel_rfl) (fun _ _ _ h => h) (Or.inl ⟨by rfl, ?_⟩) HS2.out ?_
              rotate_left
              · intro w' hs; go_simp; (try with_reducible rfl)
              refine till_free (i := 3) (v := ?_) rfl (by kernel_rfl) (by kernel_rfl) (by kernel_rfl) (by kernel_rfl) (fun _ _ _ h => h) (Or.inl ⟨by rfl, ?_⟩) HS2.out ?_
              rotate_left
              · intro w' hs; go_simp; (try with_reducible rfl)
              refine till_free (i := 4) (v := ?_) rfl (by kernel_rfl) (by kernel_rfl) (by kernel_rfl) (by kernel_rfl) (fun _ _ _ h => h) (Or.inl ⟨by rfl, ?_⟩) HS2.out ?_
              rotate_left
              · intro w' hs; go_simp; (try with_reducible rfl)
              refine till_via [6, 14, 15, 16] (i := 5) (v := ?_) rfl (by kernel_rfl) (by kernel_rfl) (by kernel_rfl) (by kernel_rfl) (fun _ _ _ h => h) (Or.inl ⟨by rfl, ?_⟩) HS2.out ?_
              rotate_left
              · intro w' hs; obtain ⟨s0, s1⟩ := hs; go_simp; (try with_reducible rfl)
              refine till_free (i := 7) (v := ?_) rfl (by kernel_rfl) (by kernel_rfl) (by kernel_rfl) (by kernel_rfl) (fun _ _ _ h => h) (Or.inl ⟨by rfl, ?_⟩) HS2.out ?_
              rotate_left
              · intro w' hs; go_simp; (try with_reducible rfl)
              refine till_free (i := 8) (v := ?_) rfl (by kernel_rfl) (by kernel_rfl) (by kernel_rfl) (by kernel_rfl) (fun _ _ _ h => h) (Or.inl ⟨by rfl, ?_⟩) HS2.out ?_
              rotate_left
              · intro w' hs; go_simp; (try with_reducible rfl)
              refine till_free (i := 9) (v := ?_) rfl (by kernel_rfl) (by kernel_rfl) (by kernel_rfl) (by kernel_rfl) (fun _ _ _ h => h) (Or.inl ⟨by rfl, ?_⟩) HS2.out ?_
              rotate_left
              · intro w' hs; go_simp; (try with_reducible rfl)
              refine till_free (i := 10) (v := ?_) rfl (by kernel_rfl) (by kernel_rfl) (by kernel_rfl) (by kernel_rfl) (fun _ _ _ h => h) (Or.inl ⟨by rfl, ?_⟩) HS2.out ?_
              rotate_left
              · intro w' hs; go_simp; (try with_reducible rfl)
              refine till_free (i := 11) (v := ?_) rfl (by kernel_rfl) (by kernel_rfl) (by kernel_rfl) (by kernel_rfl) (fun _ _ _ h => h) (Or.inl ⟨by rfl, ?_⟩) HS2.out ?_
              rotate_left
              · intro w' hs; go_simp; (try with_reducible rfl)
              refine till_via [13, 14, 15, 16] (i := 12) (v := ?_) rfl (by kernel_rfl) (by kernel_rfl) (by kernel_rfl) (by kernel_rfl) (fun _ _ _ h => h) (Or.inl ⟨by rfl, ?_⟩) HS2.out ?_
              rotate_left
              · intro w' hs; obtain ⟨s0, s1⟩ := hs; go_simp; (try with_reducible rfl)
              have KL := hid (kidLevel_any (hid (HT3.out.below (Below.refl _ w3).drew)) hf ep.id (hf.out.wf _ hepm))
              refine till_call (i := 6) (by kernel_rfl) rfl rfl 51 _ _ rfl (enters_of Tryd.func51 (by kernel_rfl) rfl) #[.pointer (some ⟨tb, 0, none⟩), .int .i64 ep.id] (by kernel_rfl) (fun v w' => v = .int .i64 ((chain f 0 ep.id).length : Int) ∧ Below w3.drew.heap.size w3.drew w') (KL.out.mono (by rintro q w' ⟨rfl, hb⟩; exact ⟨_, rfl, rfl, hb⟩)) ?_
              rintro v w4 ⟨rfl, hb4⟩
              have HB4 := hid (HB3.out.trans (((Below.refl _ w3).drew.trans hb4).mono HB3.out.size))
              have HT4 := hid ((HT3.out.below (Below.refl _ w3).drew).below hb4)
              have HS3 : Hid (w4.cell? ⟨s.g, 0, none⟩ = some (.int .i64 e.id) ∧ w4.cell? ⟨sp.g, 0, none⟩ = some (.int .i64 ep.id)) := hid ⟨((HT4.out.graph.nodes _ hm.out).cells).1, ((HT4.out.graph.nodes _ hmp.out).cells).1⟩
              refine ⟨HS3.out, ?_⟩
              have HI := hid (height_any HT4 hf e.id (hf.out.wf _ hem))
              refine till_call (i := 13) (by kernel_rfl) rfl rfl 55 _ _ rfl (enters_of Tryd.func55 (by kernel_rfl) rfl) #[.pointer (some ⟨tb, 0, none⟩), .int .i64 e.id] (by kernel_rfl) (fun v w' => v = .int .i64 (high ((rows (sub f e.id) 0).map (·.2.level))) ∧ Below w4.heap.size w4 w') (HI.out.mono (by rintro q w' ⟨rfl, hb⟩; exact ⟨_, rfl, rfl, hb⟩)) ?_
              rintro v w5 ⟨rfl, hb5⟩
              have HB5 := hid (HB4.out.trans (hb5.mono HB4.out.size))
              have HS4 : Hid (w5.cell? ⟨s.g, 0, none⟩ = some (.int .i64 e.id) ∧ w5.cell? ⟨sp.g, 0, none⟩ = some (.int .i64 ep.id)) := hid ⟨(((HT4.out.below hb5).graph.nodes _ hm.out).cells).1, (((HT4.out.below hb5).graph.nodes _ hmp.out).cells).1⟩
              refine ⟨HS4.out, ?_⟩
              have hup : (chain f 0 ep.id).length ≤ 100000 := by
                have h1 := chain_len f 0 ep.id
                have h2 := hf.out.len
                omega
              have hhi : 0 ≤ high ((rows (sub f e.id) 0).map (·.2.level)) ∧ high ((rows (sub f e.id) 0).map (·.2.level)) ≤ 100000 := by
                refine ⟨high_ge _ 0, high_le _ 0 _ (by omega) fun x hx => ?_⟩
                obtain ⟨y, hy, rfl⟩ := List.mem_map.1 hx
                have h1 := rows_level (sub f e.id) 0 y hy
                have h2 := (sub_nodup f e.id hf.out.nd).2
                have h3 := hf.out.len
                omega
              have hr := HR5.out
              clear HR5 KL HI hb4 hb5
              generalize (chain f 0 ep.id).length = up at *
              generalize high ((rows (sub f e.id) 0).map (·.2.level)) = hi at *
              obtain ⟨hh1, hh2⟩ := hhi
              refine till_value (i := 14) (v := .int .i64 ((up : Int) + hi)) (w' := w5) (by kernel_rfl) rfl rfl ?_ HS4.out ?_
              · go_simp
                rw [IntKind.wrap_i64]
                omega
              refine till_value (i := 15) (v := .bool (decide (40 ≤ (up : Int) + hi))) (w' := w5) (by kernel_rfl) rfl rfl ?_ HS4.out ?_
              · go_simp
              refine till_value (i := 16) (v := .bool (decide (40 ≤ (up : Int) + hi))) (w' := w5) (by kernel_rfl) rfl rfl ?_ HS4.out ?_
              · go_simp
              refine till_done (by kernel_rfl) ?_ _
              clear HS1 HS2 HS3 HS4
              rename_i K3 hK3
              refine hK3 _ _ ?_
              go_simp
              by_cases q7 : 40 ≤ (up : Int) + hi
              · rw [if_pos q7] at hr
                subst hr
                rw [decide_eq_true q7]
                go_wp2
                go_ret
                exact ⟨rfl, HB5.out⟩
              · rw [if_neg q7] at hr
                subst hr
                rw [decide_eq_false q7]
                go_wp2
                go_ret
                exact ⟨rfl, HB5.out⟩
end
end N
end Go.Proofs.YtidccohjehegjaaDoor
namespace Go.Proofs.YtidccohjehegjaaDoor
open Go.RowKit Go.Shelf
namespace N
open T
section
variable {B tb mb : Nat} {f : F} {nx : Int} {L : List NS} {w : World}
theorem TreeIn.seen (h : TreeIn B tb mb f nx L w) {id : Int} (hw : wfI id) (m : Nat) : (Instr.lookup 62 (.map (some mb)) (.int .i64 id) false).run Tryd.prog (w.drewN m) = .ok (ptr (N.look (idg L) id)) (w.drewN m) := get (h.graph.map.kept (w' := w.drewN m) rfl) hw
set_option maxRecDepth 100000 in
set_option maxHeartbeats 4000000 in
theorem move_none (h : Hid (TreeIn B tb mb f nx L w)) (id t' at' : Int) (hw : wfI id) (hw2 : wfI t') (hn : id ∉ ids f ∨ t' ∉ ids f) :
    Calls Tryd.prog 23 #[.pointer (some ⟨tb, 0, none⟩), .int .i64 id, .int .i64 t', .int .i64 at'] w fun q w' => q = .returned (.int .i64 60) ∧ Left B tb mb L w f nx w' := by
  obtain ⟨c0, _⟩ := h.out.cells
  have k1 := h.out.seen hw
  have k2 := h.out.seen hw2
  rcases h.out.find id with ⟨q1, q2⟩ | ⟨e, s, _, _, _, q1, q2⟩
  · rw [q2] at k1
    simp only [ptr] at k1
    rcases h.out.find t' with ⟨q3, q4⟩ | ⟨e', s', _, _, _, q3, q4⟩
    · rw [q4] at k2
      simp only [ptr] at k2
      clear hn q1 q2 q3 q4
      go_enter Tryd.func23, Tryd.ntmps23
      go_wp2
      go_quiet (fail)
      go_wp2
      go_ret
      exact ⟨rfl, Left.same h.out (below_drewN (Below.refl _ _) _)⟩
    · rw [q4] at k2
      simp only [ptr] at k2
      clear hn q1 q2 q3 q4
      go_enter Tryd.func23, Tryd.ntmps23
      go_wp2
      go_quiet (fail)
      go_wp2
      go_ret
      exact ⟨rfl, Left.same h.out (below_drewN (Below.refl _ _) _)⟩
  · have hto : t' ∉ ids f := hn.resolve_left (fun z => z q1)
    rw [q2] at k1
    simp only [ptr] at k1
    rcases h.out.find t' with ⟨q3, q4⟩ | ⟨e', s', _, _, _, q3, q4⟩
    · rw [q4] at k2
      simp only [ptr] at k2
      clear hn q1 q2 q3 q4 hto
      go_enter Tryd.func23, Tryd.ntmps23
      go_wp2
      go_quiet (fail)
      go_wp2
      go_ret
      exact ⟨rfl, Left.same h.out (below_drewN (Below.refl _ _) _)⟩
    · exact absurd q3 hto
set_option maxRecDepth 100000 in
set_option maxHeartbeats 4000000 in
theorem move_bad (h : Hid (TreeIn B tb mb f nx L w)) (hf : Hid (Fine f)) (e ep : Nd) (s sp : Slot) (hm : Hid ((e, s) ∈ L)) (hmp : Hid ((ep, sp) ∈ L)) (hem : e.id ∈ ids f) (hepm : ep.id ∈ ids f) (at' : Int) (r : Int) (HR : Hid (unmovE f e ep at' = r)) (hr : r ≠ 0) :
    Calls Tryd.prog 23 #[.pointer (some ⟨tb, 0, none⟩), .int .i64 e.id, .int .i64 ep.id, .int .i64 at'] w fun q w' => q = .returned (.int .i64 r) ∧ Left B tb mb L w f nx w' := by
  obtain ⟨c0, _⟩ := h.out.cells
  have k1 := h.out.seen (hf.out.wf _ hem)
  have k2 := h.out.seen (hf.out.wf _ hepm)
  rw [look_mem h.out.graph.map.nd (List.mem_map.2 ⟨_, hm.out, rfl⟩)] at k1
  rw [look_mem h.out.graph.map.nd (List.mem_map.2 ⟨_, hmp.out, rfl⟩)] at k2
  simp only [ptr] at k1 k2
  have hr' : (r != 0) = true := by simpa using hr
  clear hr
  go_enter Tryd.func23, Tryd.ntmps23
  go_wp2
  go_quiet (fail)
  go_wp2_with fail
  refine (unmov_any (hid (h.out.below (below_drewN (Below.refl _ w) _))) hf e ep s sp hm hmp hem hepm at' r HR).mono ?_
  rintro q w2 ⟨rfl, hb⟩
  have HB := hid ((below_drewN (Below.refl w.heap.size w) _).trans hb)
  clear hb
  go_wp2
  go_ret
  exact ⟨rfl, Left.same h.out HB.out⟩
end
end N
end Go.Proofs.YtidccohjehegjaaDoor
