/- For the statement on a tree's shape: what a tree's items are bounded by, which kids a node's parent has, and the walk of Get at a node's parent. -/
import Derived.Test.YtidccohjehegjaaDoorNLawKitK
import Derived.Test.YtidccohjehegjaaDoorPRefCheck2K
namespace Go.Proofs.YtidccohjehegjaaDoor
open Go.RowKit Go.Shelf
namespace N
open T
theorem rows_fit : ∀ (f : F) (n : Int), okT f n → 0 ≤ n → ∀ r ∈ rows f n, P.partsE r.2 = 0 ∧ 0 ≤ r.2.level ∧ r.2.level < 40
  | none, _, _, _, r, h => by simp [rows] at h
  | some ⟨i, x, k, s⟩, n, ok, hn, r, h => by
    obtain ⟨h1, h2, _, h4, h5⟩ := ok_cons.1 ok
    simp only [rows, List.mem_cons, List.mem_append] at h
    rcases h with h | h | h
    · subst h; exact ⟨h1, hn, h2⟩
    · exact rows_fit k (n + 1) h4 (by omega) r h
    · exact rows_fit s n h5 hn r h
theorem unfit_short {b : ByteArray} (h : P.unfitE b = 0) : b.size ≤ 1500 := by
  unfold P.unfitE at h
  split at h
  · simp at h
  · split at h
    · simp at h
    · omega
theorem name_short {b : ByteArray} (h : L.nameP b = true) : b.size ≤ 60 := by
  unfold L.nameP G.nameB at h
  simp only [Bool.and_eq_true, decide_eq_true_eq] at h
  have := h.1.1
  simpa using this
theorem rise_short : ∀ (l : List L.Attr) (p : ByteArray), P.riseF p l = true → ∀ a ∈ l, a.1.size ≤ 60
  | [], _, _, a, h => by simp at h
  | b :: l, p, h, a, ha => by
    unfold P.riseF at h
    simp only [Bool.and_eq_true] at h
    rcases List.mem_cons.1 ha with z | z
    · rw [z]; exact name_short h.1.1
    · exact rise_short l b.1 h.2 a z
theorem fit_parts {x : P.Itm} (h : P.partsE x = 0) (h1 : 0 ≤ x.level) (h2 : x.level < 40) : (-9223372036854775808 ≤ x.level ∧ x.level ≤ 9223372036854775807) ∧ (-9223372036854775808 ≤ x.kind ∧ x.kind ≤ 9223372036854775807) ∧ x.name.size ≤ 1048576 ∧ x.text.size ≤ 1048576 ∧ ∀ a ∈ x.attrs, a.1.size ≤ 1048576 ∧ a.2.size ≤ 1048576 := by
  have hnb : L.noB.size ≤ 60 := by decide
  obtain ⟨_, hk, _⟩ := parts_attrs h
  rcases hk with hk | hk
  · obtain ⟨e1, e2, e3, _, e5⟩ := (elem_parts hk).1 h
    have e6 := (vals_iff _).1 e5
    refine ⟨by omega, by omega, ?_, ?_, fun a ha => ?_⟩
    · have := name_short e2; omega
    · rw [e1]; omega
    · have z1 := rise_short _ _ e3 a ha
      have z2 := unfit_short (e6 a ha)
      omega
  · unfold P.partsE at h
    rw [if_pos hk] at h
    by_cases z : x.name ≠ L.noB ∨ x.attrs ≠ []
    · rw [if_pos z] at h; cases h
    · rw [if_neg z] at h
      have z1 : x.name = L.noB := Classical.byContradiction fun y => z (Or.inl y)
      have z2 : x.attrs = [] := Classical.byContradiction fun y => z (Or.inr y)
      have z3 := unfit_short h
      refine ⟨by omega, by omega, ?_, by omega, ?_⟩
      · rw [z1]; omega
      · rw [z2]; simp
theorem tops_sub : ∀ f : F, (tops f).Sublist (ids f)
  | none => by simp [tops, ids]
  | some ⟨i, x, k, s⟩ => by
    rw [tops, ids]
    exact List.Sublist.cons_cons _ ((tops_sub s).trans (List.sublist_append_right _ _))
theorem kids_nodup {f : F} (hd : (ids f).Nodup) {q : Int} {e : Nd} (h : e ∈ T.ents f q) : e.kids.Nodup := by
  obtain ⟨x, k, h1, _, h3⟩ := sub_ent f q e hd h
  have h4 := (sub_nodup f e.id hd).1
  rw [h1] at h4
  rw [h3]
  simp only [ids, List.nodup_cons, List.append_nil] at h4
  exact h4.2.sublist (tops_sub k)
/-- Which kids the parent of a node has. -/
theorem par_kids {f : F} {nx : Int} (h : T.Good f nx) {e : Nd} (he : e ∈ T.ents f 0) :
    (e.par = 0 ∧ e.id = rootF f) ∨ (e.par ≠ 0 ∧ e.id ≠ rootF f ∧ ∃ ep ∈ T.ents f 0, ep.id = e.par ∧ ep.kids.count e.id = 1 ∧ ep.kids.length ≤ 1000) := by
  rcases path_par f 0 h.nd e he with ⟨h1, h2, _⟩ | ⟨h1, _, h3⟩
  · exact Or.inl ⟨h1, h.one _ h2⟩
  · refine Or.inr ⟨by have := (h.lt _ h1).1; omega, fun z => ?_, ?_⟩
    · have hm : e.id ∈ tops f := by
        rcases h.shape with y | ⟨i, x, k, y, _⟩
        · rw [y] at he; simp [T.ents] at he
        · rw [z, y]; simp [tops, rootF]
      rw [par_top f e.id h.nd hm] at h3
      cases h3
    · obtain ⟨ep, hep, g1, g2⟩ := par_kid f 0 e.id e.par h3
      refine ⟨ep, hep, g1, ?_, Nat.le_trans (kids_len h.nd hep) h.len⟩
      have hn := kids_nodup h.nd hep
      have h4 := List.nodup_iff_count.1 hn e.id
      have h5 := List.count_pos_iff.2 g2
      omega
theorem count_take (l : List Int) (a : Int) (k : Nat) (h : k < l.length) : (l.take (k + 1)).count a = (l.take k).count a + (if l[k] = a then 1 else 0) := by
  rw [List.take_succ_eq_append_getElem h, List.count_append]
  by_cases q : l[k] = a
  · rw [if_pos q, q]; simp
  · rw [if_neg q]; simp [List.count_eq_zero, Ne.symm q]
section
variable {B tb mb : Nat} {f : F} {nx : Int} {L : List NS} {w : World}
/-- What Get tells of a node's parent. -/
theorem get_par (h : Hid (TreeIn B tb mb f nx L w)) (HG : Hid (T.Good f nx)) (e : Nd) (he : e ∈ T.ents f 0) : ∃ K : List Int, K.length ≤ 1000 ∧ wfI e.par ∧
    ((e.par = 0 ∧ e.id = rootF f ∧ K = []) ∨ (e.par ≠ 0 ∧ e.id ≠ rootF f ∧ K.count e.id = 1 ∧ ∃ ep s, (ep, s) ∈ L ∧ look (idg L) e.par = some s.g ∧ ep.kids = K)) ∧
    Calls Tryd.prog 15 #[.pointer (some ⟨tb, 0, none⟩), .int .i64 e.par] w fun q w' => ∃ i0 p0 k0 nm tx aa n ac b, q = .returned (.tuple #[.agg #[.int .i64 i0, .int .i64 p0, .int .i64 k0, .int .i64 (K.length : Int), .string nm, .string tx, .slice aa n ac], .bool b]) ∧ Below w.heap.size w w' := by
  rcases par_kids HG.out he with ⟨h1, h2⟩ | ⟨h1, h2, ep, hep, g1, g2, g3⟩
  · have hw : wfI e.par := by rw [h1]; exact wf_small (by decide) (by decide)
    have hn : look (idg L) e.par = none := by
      rcases h.out.find e.par with ⟨_, q⟩ | ⟨e', _, _, q1, q2, _⟩
      · exact q
      · exfalso
        have hi : e'.id ∈ ids f := by rw [← ents_ids f 0]; exact List.mem_map_of_mem q1
        have := (HG.out.lt _ hi).1
        omega
    refine ⟨[], by simp, hw, Or.inl ⟨h1, h2, rfl⟩, (get_none h e.par hw (hid hn)).mono ?_⟩
    rintro q w' ⟨rfl, hb⟩
    exact ⟨_, _, _, _, _, _, _, _, _, rfl, hb⟩
  · have hids : ep.id ∈ ids f := by rw [← ents_ids f 0]; exact List.mem_map_of_mem hep
    have hw : wfI ep.id := HG.out.fine.wf _ hids
    have hm := h.out.ent ep hep
    have hlk := look_mem h.out.graph.map.nd (List.mem_map.2 ⟨_, hm, rfl⟩)
    dsimp only at hlk
    have ha := (HG.out.attrs ep hep).2
    rw [← g1]
    refine ⟨ep.kids, g3, hw, Or.inr ⟨by rw [g1]; exact h1, h2, g2, ep, _, hm, hlk, rfl⟩, (get_ok h ep.id hw ep _ (hid hm) (hid hlk) (hid (by omega))).mono ?_⟩
    rintro q w' ⟨V, rfl, hv, hb⟩
    obtain ⟨va, vc, rfl⟩ := slice_of hv
    exact ⟨_, _, _, _, _, _, _, _, _, rfl, hb⟩
end
end N
end Go.Proofs.YtidccohjehegjaaDoor
