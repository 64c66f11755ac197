/- Plain mathematics for layer grove: what the document's Move does to a forest, told by nodes. -/
import Derived.Test.YtidccohjehegjaaDoorK8
import Derived.Test.YtidccohjehegjaaDoorK9
import Derived.Test.YtidccohjehegjaaDoorK7
namespace Go.Proofs.YtidccohjehegjaaDoor
open Go.RowKit Go.Shelf
namespace N
open T
theorem uniq_ent {f : F} {q : Int} {a b : Nd} (hd : (ids f).Nodup) (ha : a ∈ T.ents f q) (hb : b ∈ T.ents f q) (h : a.id = b.id) : a = b := by
  have hn : ((T.ents f q).map (·.id)).Nodup := by rw [ents_ids]; exact hd
  revert ha hb hn
  generalize T.ents f q = l
  intro ha hb hn
  induction l with
  | nil => simp at ha
  | cons c l ih =>
    rw [List.map_cons, List.nodup_cons] at hn
    rcases List.mem_cons.1 ha with e1 | e1
    · rcases List.mem_cons.1 hb with e2 | e2
      · rw [e1, e2]
      · exact absurd (List.mem_map.2 ⟨b, e2, by rw [← h, e1]⟩) hn.1
    · rcases List.mem_cons.1 hb with e2 | e2
      · exact absurd (List.mem_map.2 ⟨a, e1, by rw [h, e2]⟩) hn.1
      · exact ih e1 e2 hn.2
theorem mem_mapE {p : Int} {u : Nd → Nd} {l : List Nd} {e : Nd} (h : e ∈ mapE p u l) : ∃ e0 ∈ l, e = if e0.id = p then u e0 else e0 := by
  unfold mapE at h
  obtain ⟨e0, h1, h2⟩ := List.mem_map.1 h
  exact ⟨e0, h1, h2.symm⟩
/-- The kids of another node where one was taken out. -/
theorem del_kids {f : F} (hd : (ids f).Nodup) {id p : Int} (hp : parF f id = some p) {ep : Nd} (hep : ep ∈ T.ents f 0) {y : P.Itm} {kk s : F} (hs : sub (T.del f id) ep.id = some ⟨ep.id, y, kk, s⟩) :
    tops kk = if ep.id = p then ep.kids.erase id else ep.kids := by
  have hdd := del_nodup id hd
  have hto : ep.id ∈ ids (T.del f id) := by
    apply Classical.byContradiction
    intro q
    rw [sub_none _ _ q] at hs
    cases hs
  obtain ⟨e2, h2, h3⟩ : ∃ e2 ∈ T.ents (T.del f id) 0, e2.id = ep.id := by
    rw [← ents_ids _ 0] at hto
    obtain ⟨e2, h2, h3⟩ := List.mem_map.1 hto
    exact ⟨e2, h2, h3⟩
  obtain ⟨x2, k2, h4, _, h6⟩ := sub_ent _ 0 e2 hdd h2
  rw [h3, hs] at h4
  simp only [Option.some.injEq, N.mk.injEq, true_and] at h4
  obtain ⟨rfl, rfl, rfl⟩ := h4
  have h7 := (ents_del f 0 id p hd hp).mem_iff.2 (List.mem_append_left (T.ents (sub f id) p) h2)
  obtain ⟨e0, h8, h9⟩ := mem_mapE h7
  have h10 : e0.id = ep.id := by
    rw [← h3, h9]
    split <;> rfl
  have h11 := uniq_ent hd h8 hep h10
  subst h11
  rw [← h6, h9]
  split <;> rfl
theorem foldmax_ge : ∀ (l : List Int) (a x : Int), x ∈ l → x ≤ l.foldl max a
  | y :: l, a, x, h => by
    rcases List.mem_cons.1 h with e | e
    · rw [e]
      exact Int.le_trans (by show y ≤ max a y; omega) (high_ge l (max a y))
    · exact foldmax_ge l _ x e
theorem foldmax_mem : ∀ (l : List Int) (a : Int), l.foldl max a = a ∨ l.foldl max a ∈ l
  | [], _ => Or.inl rfl
  | y :: l, a => by
    rw [List.foldl_cons]
    rcases foldmax_mem l (max a y) with h | h
    · rw [h]
      by_cases q : a ≤ y
      · right
        rw [show max a y = y by omega]
        exact List.mem_cons_self ..
      · left
        omega
    · exact Or.inr (List.mem_cons_of_mem _ h)
/-- Whether a forest's rows stand too deep, told by how high it is. -/
theorem deep_iff (g : F) (n : Int) (hg : g ≠ none) : ((rows g n).any fun r => decide (40 ≤ r.2.level)) = true ↔ 40 ≤ n + high ((rows g 0).map (·.2.level)) := by
  have hr := rows_shift (-n) g 0
  rw [show (0 : Int) - -n = n by omega] at hr
  rw [← hr, List.any_eq_true]
  have h0 : (0 : Int) ∈ (rows g 0).map (·.2.level) := by
    cases g with
    | none => exact absurd rfl hg
    | some m =>
      obtain ⟨i, x, k, s⟩ := m
      simp [rows, atL]
  unfold high
  constructor
  · rintro ⟨r, h1, h2⟩
    obtain ⟨r0, h3, rfl⟩ := List.mem_map.1 h1
    simp only [decide_eq_true_eq] at h2
    have := foldmax_ge _ 0 _ (List.mem_map_of_mem (f := fun r : Row => r.2.level) h3)
    omega
  · intro h
    have hm : ((rows g 0).map (·.2.level)).foldl max 0 ∈ (rows g 0).map (·.2.level) := by
      rcases foldmax_mem ((rows g 0).map (·.2.level)) 0 with q | q
      · rw [q]; exact h0
      · exact q
    obtain ⟨r0, h3, h4⟩ := List.mem_map.1 hm
    refine ⟨_, List.mem_map_of_mem h3, ?_⟩
    simp only [decide_eq_true_eq]
    omega
theorem moveF_out {f : F} {id t' at' : Int} (h : id ∉ ids f ∨ t' ∉ ids f) : moveF f id t' at' = (f, 60) := by
  unfold moveF
  rw [if_pos h]
theorem ent_par {f : F} (hd : (ids f).Nodup) {e : Nd} (he : e ∈ T.ents f 0) (hr : e.id ∉ tops f) : parF f e.id = some e.par := by
  rcases path_par f 0 hd e he with ⟨_, q, _⟩ | ⟨_, _, q⟩
  · exact absurd q hr
  · exact q
/-- Move, told by nodes. -/
theorem moveF_in {f : F} (hd : (ids f).Nodup) (hone : ∀ i ∈ tops f, i = rootF f) (hk : ∀ e ∈ T.ents f 0, e.x.kind = 1 ∨ e.x.kind = 2) {e ep : Nd} (he : e ∈ T.ents f 0) (hep : ep ∈ T.ents f 0) (at' : Int) :
    moveF f e.id ep.id at' = if unmovE f e ep at' ≠ 0 then (f, unmovE f e ep at') else (ins (T.del f e.id) ep.id at'.toNat (sub f e.id), 0) := by
  have hem : e.id ∈ ids f := by rw [← ents_ids f 0]; exact List.mem_map_of_mem he
  have hepm : ep.id ∈ ids f := by rw [← ents_ids f 0]; exact List.mem_map_of_mem hep
  have hfn : f ≠ none := by rintro rfl; simp [ids] at hem
  obtain ⟨y, ky, hy1, hy2, hy3⟩ := sub_ent f 0 ep hd hep
  have hkx : y.kind = ep.x.kind := by rw [hy2]; rfl
  have hdd := del_nodup e.id hd
  obtain ⟨pre, x0, m, k', post, A⟩ := at_of f 0 e.id hd hem
  obtain ⟨pre2, x2, m2, k2, post2, A2⟩ := at_of f 0 ep.id hd hepm
  have hch := chain_level f 0 ep.id 0 (atL x2 m2) hd A2.mem
  have hlv : (itemAt (rows f 0) ((findN (rows f 0) ep.id).getD 0)).level + 1 = ((chain f 0 ep.id).length : Int) := by
    rw [A2.find, Option.getD_some, A2.item, hch]
    omega
  have hin := chain_sub_iff f 0 ep.id e.id hd hepm
  have hdl := del_iff hd A ep.id hepm
  unfold moveF
  rw [if_neg (fun q => q.elim (fun z => z hem) (fun z => z hepm)), hy1, hlv]
  unfold unmovE
  by_cases q1 : e.id = rootF f
  · rw [if_pos (first_root.2 ⟨hfn, q1⟩), if_pos q1]
    simp
  · rw [if_neg (fun z => q1 (first_root.1 z).2), if_neg q1]
    have hpar := ent_par hd he (fun z => q1 (hone _ z))
    by_cases q3 : ep.id ∈ ids (sub f e.id)
    · have hn : sub (T.del f e.id) ep.id = none := sub_none _ _ (fun z => (hdl.1 z) q3)
      rw [hn]
      simp only [hkx]
      rcases hk ep hep with z | z
      · have z1 : ¬ ep.x.kind ≠ 1 := by omega
        have z2 : ¬ ep.x.kind = 2 := by omega
        rw [if_neg z1, if_neg z2, if_pos (hin.2 q3)]
        simp
      · have z1 : ep.x.kind ≠ 1 := by omega
        rw [if_pos z1, if_pos z]
        simp
    · obtain ⟨y3, kk, hs⟩ := sub_one (T.del f e.id) ep.id hdd (hdl.2 q3)
      have hkk := del_kids hd hpar hep hs
      have hoth : ((tops kk).length : Int) = othersE e ep := by
        rw [hkk]
        unfold othersE
        by_cases z : ep.id = e.par
        · rw [if_pos z, if_pos z.symm]
          have hmem : e.id ∈ ep.kids := by
            obtain ⟨e5, h5, h6, h7⟩ := par_kid f 0 e.id e.par hpar
            rw [uniq_ent hd hep h5 (by rw [h6, z])]
            exact h7
          have := List.length_pos_of_mem hmem
          rw [List.length_erase_of_mem hmem]
          omega
        · rw [if_neg z, if_neg (fun y => z y.symm)]
      rw [hs]
      simp only [hoth, hkx]
      rcases hk ep hep with z | z
      · have z1 : ¬ ep.x.kind ≠ 1 := by omega
        have z2 : ¬ ep.x.kind = 2 := by omega
        rw [if_neg z1, if_neg z2, if_neg (fun y => q3 (hin.1 y))]
        have hib : insideB f e.id ep.id = false := by simp [insideB, q3]
        rw [hib]
        simp only [Bool.false_eq_true, if_false]
        by_cases q4 : at' < 0 ∨ othersE e ep < at'
        · simp [q4]
        · have hne : sub f e.id ≠ none := by rw [A.tree]; simp
          have hdp := deep_iff (sub f e.id) ((chain f 0 ep.id).length : Int) hne
          by_cases q5 : 40 ≤ ((chain f 0 ep.id).length : Int) + high ((rows (sub f e.id) 0).map (·.2.level))
          · rw [if_neg q4, if_neg q4, if_pos (hdp.2 q5)]
            simp [q5]
          · rw [if_neg q4, if_neg q4, if_neg (fun y => q5 (hdp.1 y))]
            simp [q5]
      · have z1 : ep.x.kind ≠ 1 := by omega
        rw [if_pos z1, if_pos z]
        simp
end N
end Go.Proofs.YtidccohjehegjaaDoor
