/- Plain mathematics for layer grove: what stays true of a tree whatever calls there were. No program is spoken of here. -/
import Derived.Test.YtidccohjehegjaaDoorNSetAttrK
import Derived.Test.YtidccohjehegjaaDoorNMoveK
namespace Go.Proofs.YtidccohjehegjaaDoor
open Go.RowKit Go.Shelf
theorem N.mapE_len (p : Int) (u : T.Nd → T.Nd) (l : List T.Nd) : (T.mapE p u l).length = l.length := List.length_map ..
namespace T
/-- A tree that calls have made. -/
structure Good (f : F) (nx : Int) : Prop where
  nd : (ids f).Nodup
  lt : ∀ i ∈ ids f, 1 ≤ i ∧ i < nx
  nx1 : 1 ≤ nx
  nx2 : nx ≤ 2147483647
  len : (ids f).length ≤ 1000
  ok : okT f 0
  shape : f = none ∨ ∃ i x k, f = some ⟨i, x, k, none⟩ ∧ x.kind = 1
theorem Good.fine {f : F} {nx : Int} (h : Good f nx) : N.Fine f := by
  refine ⟨h.nd, fun i hi => ?_, by have := h.len; omega, fun q => by have := (h.lt 0 q).1; omega⟩
  have h1 := h.lt i hi
  have h2 := h.nx2
  simp only [N.wfI, Lit.wf, Bool.and_eq_true, decide_eq_true_eq]
  exact ⟨Int.le_trans (by decide : IntKind.i64.min ≤ 0) (by omega), Int.le_trans (by omega : i ≤ 9223372036854775807) (by decide)⟩
theorem Good.one {f : F} {nx : Int} (h : Good f nx) : ∀ i ∈ tops f, i = N.rootF f := by
  rcases h.shape with e | ⟨i, x, k, e, _⟩
  · rw [e]; simp [tops]
  · rw [e]; simp [tops, N.rootF]
theorem ents_ok : ∀ (f : F) (n q : Int), okT f n → ∀ e ∈ ents f q, P.partsE e.x = 0
  | none, _, _, _, e, h => by simp [ents] at h
  | some ⟨i, x, k, s⟩, n, q, ok, e, h => by
    obtain ⟨h1, _, _, h4, h5⟩ := ok_cons.1 ok
    rw [ents] at h
    simp only [List.mem_cons, List.mem_append] at h
    rcases h with h | h | h
    · rw [h]; exact h1
    · exact ents_ok k (n + 1) i h4 e h
    · exact ents_ok s n q h5 e h
theorem sub_ok {f : F} {n : Int} (hd : (ids f).Nodup) (ok : okT f n) {id : Int} {y : P.Itm} {k s : F} (h : sub f id = some ⟨id, y, k, s⟩) : P.partsE y = 0 := by
  have hid : id ∈ ids f := Classical.byContradiction fun q => by rw [sub_none f id q] at h; cases h
  obtain ⟨e, he, h1⟩ : ∃ e ∈ ents f 0, e.id = id := by
    rw [← ents_ids f 0] at hid
    obtain ⟨e, he, h1⟩ := List.mem_map.1 hid
    exact ⟨e, he, h1⟩
  obtain ⟨x, k2, h2, h3, _⟩ := N.sub_ent f 0 e hd he
  rw [h1, h] at h2
  simp only [Option.some.injEq, N.mk.injEq, true_and] at h2
  have := ents_ok f n 0 ok e he
  rw [h3, ← h2.1] at this
  exact this
theorem Good.kinds {f : F} {nx : Int} (h : Good f nx) : ∀ e ∈ ents f 0, e.x.kind = 1 ∨ e.x.kind = 2 := fun e he => (N.parts_attrs (ents_ok f 0 0 h.ok e he)).2.1
theorem Good.attrs {f : F} {nx : Int} (h : Good f nx) : ∀ e ∈ ents f 0, Rises e.x.attrs ∧ e.x.attrs.length ≤ 20 := fun e he => by
  obtain ⟨h1, h2, h3⟩ := N.parts_attrs (ents_ok f 0 0 h.ok e he)
  refine ⟨?_, h1⟩
  rcases h2 with q | q
  · exact (rises_of _ _ (h3 q)).2
  · have := ents_ok f 0 0 h.ok e he
    unfold P.partsE at this
    rw [if_pos q] at this
    by_cases z : e.x.name ≠ L.noB ∨ e.x.attrs ≠ []
    · rw [if_pos z] at this; cases this
    · have z2 : e.x.attrs = [] := Classical.byContradiction fun y => z (Or.inr y)
      rw [z2]
      exact fun i j hi => by simp at hi
theorem Good.new : Good none 1 := ⟨by simp [ids], by simp [ids], by omega, by omega, by simp [ids], ok_none 0, Or.inl rfl⟩
theorem Good.load {f : F} {nx : Int} (h : Good f nx) {l : List P.Itm} (hc : P.checkP l = (0, 0)) (hl : l.length ≤ 1000) (hn : nx + l.length ≤ 2147483647) : Good (forestOf nx 0 l) (nx + l.length) := by
  obtain ⟨h1, x, k, h2, h3, h4⟩ := load_tree nx hc
  have hi := forest_ids nx 0 h1
  have hx := h.nx1
  refine ⟨by rw [hi]; exact named_nodup _ _ _, fun i q => ?_, by omega, hn, by rw [hi, List.length_map, named_len]; exact hl, h4, Or.inr ⟨nx, x, k, h2, h3⟩⟩
  rw [hi, named_ids] at q
  omega
theorem ins_shape {f : F} (h : f = none ∨ ∃ i x k, f = some ⟨i, x, k, none⟩ ∧ x.kind = 1) (p : Int) (a : Nat) (g : F) : ins f p a g = none ∨ ∃ i x k, ins f p a g = some ⟨i, x, k, none⟩ ∧ x.kind = 1 := by
  rcases h with rfl | ⟨i, x, k, rfl, hk⟩
  · left; simp [ins]
  · right
    rw [ins]
    split
    · exact ⟨i, x, _, rfl, hk⟩
    · exact ⟨i, x, _, by rw [show ins none p a g = none by simp [ins]], hk⟩
theorem del_shape {f : F} (h : f = none ∨ ∃ i x k, f = some ⟨i, x, k, none⟩ ∧ x.kind = 1) (d : Int) : T.del f d = none ∨ ∃ i x k, T.del f d = some ⟨i, x, k, none⟩ ∧ x.kind = 1 := by
  rcases h with rfl | ⟨i, x, k, rfl, hk⟩
  · left; simp [del]
  · rw [del]
    split
    · exact Or.inl rfl
    · exact Or.inr ⟨i, x, _, by rw [show del none d = none by simp [del]], hk⟩
theorem upd_shape {f : F} (h : f = none ∨ ∃ i x k, f = some ⟨i, x, k, none⟩ ∧ x.kind = 1) (ok : okT f 0) (d : Int) (u : P.Itm → P.Itm) (hu : ∀ y, P.partsE y = 0 → y.kind = (u y).kind) : upd f d u = none ∨ ∃ i x k, upd f d u = some ⟨i, x, k, none⟩ ∧ x.kind = 1 := by
  rcases h with rfl | ⟨i, x, k, rfl, hk⟩
  · left; simp [upd]
  · right
    have hp := (ok_cons.1 ok).1
    rw [upd]
    split
    · exact ⟨i, _, k, rfl, by rw [← hu x hp]; exact hk⟩
    · exact ⟨i, x, _, by rw [show upd none d u = none by simp [upd]], hk⟩
theorem Good.upd {f : F} {nx : Int} (h : Good f nx) (id : Int) (u : P.Itm → P.Itm) (hu : ∀ y, P.partsE y = 0 → y.kind = (u y).kind) (hp : ∀ y k s, sub f id = some ⟨id, y, k, s⟩ → P.partsE (u y) = 0) : Good (T.upd f id u) nx := by
  have hi := (upd_ids f id u).1
  exact ⟨by rw [hi]; exact h.nd, by rw [hi]; exact h.lt, h.nx1, h.nx2, by rw [hi]; exact h.len, ok_upd f 0 id u h.ok hu hp h.nd, upd_shape h.shape h.ok id u hu⟩
theorem Good.del {f : F} {nx : Int} (h : Good f nx) (id : Int) : Good (T.del f id) nx := by
  have hs := ids_del f id
  exact ⟨h.nd.sublist hs, fun i q => h.lt i (hs.subset q), h.nx1, h.nx2, Nat.le_trans hs.length_le h.len, ok_del f 0 id h.ok, del_shape h.shape id⟩
theorem lev_chain {f : F} (hd : (ids f).Nodup) {id m : Int} (hi : id ∈ ids f) (h : levF f 0 id = some m) : m + 1 = ((N.chain f 0 id).length : Int) := by
  obtain ⟨m2, y, h1, h2⟩ := lev_row f 0 id hd hi
  rw [h, Option.some.injEq] at h1
  subst h1
  have := N.chain_level f 0 id 0 (atL y m) hd h2
  have e : (atL y m).level = m := rfl
  omega
theorem Good.insert {f : F} {nx : Int} (h : Good f nx) {e : Nd} (he : e ∈ ents f 0) (hk : e.x.kind = 1) (a : Nat) {l : List P.Itm} (hf : forestF none l = 0) (hd : ((N.chain f 0 e.id).length : Int) + deepest l < 40) (hl : (ids f).length + l.length ≤ 1000) (hn : nx + l.length ≤ 2147483647) :
    Good (ins f e.id a (forestOf nx ((N.chain f 0 e.id).length : Int) l)) (nx + l.length) := by
  have hem : e.id ∈ ids f := by rw [← ents_ids f 0]; exact List.mem_map_of_mem he
  have hi := forest_ids nx ((N.chain f 0 e.id).length : Int) hf
  have hg : (ids (forestOf nx ((N.chain f 0 e.id).length : Int) l)).Nodup := by rw [hi]; exact named_nodup _ _ _
  have hmem : ∀ i ∈ ids (forestOf nx ((N.chain f 0 e.id).length : Int) l), nx ≤ i ∧ i < nx + l.length := fun i q => by rw [hi, named_ids] at q; exact q
  have hx := h.nx1
  have hp := ids_ins f e.id a (forestOf nx ((N.chain f 0 e.id).length : Int) l) h.nd hem
  refine ⟨ins_nodup a h.nd hem hg (fun i q z => ?_), fun i q => ?_, by omega, hn, ?_, ?_, ins_shape h.shape _ _ _⟩
  · have := hmem i q; have := h.lt i z; omega
  · rcases List.mem_append.1 (hp.mem_iff.1 q) with z | z
    · have := h.lt i z; omega
    · have := hmem i z; omega
  · rw [hp.length_eq, List.length_append, hi, List.length_map, named_len]
    exact hl
  · refine ok_ins f 0 e.id a _ h.nd h.ok (fun m hm => ?_) (fun y k s hs => ?_)
    · rw [lev_chain h.nd hem hm]
      exact forest_ok nx _ hf hd
    · obtain ⟨x, k2, h2, h3, _⟩ := N.sub_ent f 0 e h.nd he
      rw [hs] at h2
      simp only [Option.some.injEq, N.mk.injEq, true_and] at h2
      have : e.x.kind = x.kind := by rw [h3]; rfl
      rw [h2.1]
      omega
/-- Parts that may be, at another level. -/
theorem ok_shift : ∀ (g : F) (n n' : Int), okT g n → (∀ r ∈ rows g n', r.2.level < 40) → okT g n'
  | none, _, _, _, _ => ok_none _
  | some ⟨i, x, k, s⟩, n, n', h, hr => by
    obtain ⟨h1, _, h3, h4, h5⟩ := ok_cons.1 h
    rw [rows] at hr
    refine ok_cons.2 ⟨h1, ?_, h3, ok_shift k (n + 1) (n' + 1) h4 (fun r q => hr r (List.mem_cons_of_mem _ (List.mem_append_left _ q))), ok_shift s n n' h5 (fun r q => hr r (List.mem_cons_of_mem _ (List.mem_append_right _ q)))⟩
    exact hr _ (List.mem_cons_self ..)
theorem sub_tree_ok : ∀ (f : F) (n d : Int), okT f n → ∃ m, okT (sub f d) m
  | none, n, _, _ => ⟨n, by simp [sub, okT]⟩
  | some ⟨i, x, k, s⟩, n, d, h => by
    obtain ⟨h1, h2, h3, h4, h5⟩ := ok_cons.1 h
    rw [sub]
    split
    · exact ⟨n, ok_cons.2 ⟨h1, h2, h3, h4, ok_none _⟩⟩
    · split
      · exact sub_tree_ok s n d h5
      · exact sub_tree_ok k (n + 1) d h4
theorem Good.move {f : F} {nx : Int} (h : Good f nx) {e ep : Nd} (he : e ∈ ents f 0) (hep : ep ∈ ents f 0) (a : Nat) {at' : Int} (hr : N.unmovE f e ep at' = 0) : Good (ins (T.del f e.id) ep.id a (sub f e.id)) nx := by
  have hd := h.nd
  have hem : e.id ∈ ids f := by rw [← ents_ids f 0]; exact List.mem_map_of_mem he
  have hepm : ep.id ∈ ids f := by rw [← ents_ids f 0]; exact List.mem_map_of_mem hep
  obtain ⟨hnr, hk2, hch, hdp⟩ : e.id ≠ N.rootF f ∧ ep.x.kind ≠ 2 ∧ e.id ∉ (N.chain f 0 ep.id).map (·.id) ∧ ((N.chain f 0 ep.id).length : Int) + N.high ((rows (sub f e.id) 0).map (·.2.level)) < 40 := by
    unfold N.unmovE at hr
    by_cases q1 : e.id = N.rootF f
    · rw [if_pos q1] at hr; cases hr
    · rw [if_neg q1] at hr
      by_cases q2 : ep.x.kind = 2
      · rw [if_pos q2] at hr; cases hr
      · rw [if_neg q2] at hr
        by_cases q3 : e.id ∈ (N.chain f 0 ep.id).map (·.id)
        · rw [if_pos q3] at hr; cases hr
        · rw [if_neg q3] at hr
          by_cases q4 : at' < 0 ∨ N.othersE e ep < at'
          · rw [if_pos q4] at hr; cases hr
          · rw [if_neg q4] at hr
            by_cases q5 : 40 ≤ ((N.chain f 0 ep.id).length : Int) + N.high ((rows (sub f e.id) 0).map (·.2.level))
            · rw [if_pos q5] at hr; cases hr
            · exact ⟨q1, q2, q3, by omega⟩
  have hpar := N.ent_par hd he (fun z => hnr (h.one _ z))
  have hts : ep.id ∉ ids (sub f e.id) := fun z => hch ((N.chain_sub_iff f 0 ep.id e.id hd hepm).2 z)
  obtain ⟨pre, x, m, k, post, A⟩ := at_of f 0 e.id hd hem
  obtain ⟨pre2, x2, m2, k2, post2, A2⟩ := at_of f 0 ep.id hd hepm
  have hto : ep.id ∈ ids (T.del f e.id) := (del_iff hd A ep.id hepm).2 hts
  have hdd := del_nodup e.id hd
  have hsn := (N.sub_nodup f e.id hd).1
  have hsub : ∀ i ∈ ids (sub f e.id), i ∈ ids f := N.sub_ids_sub f e.id hd
  have hdis : ∀ i ∈ ids (sub f e.id), i ∉ ids (T.del f e.id) := fun i q z => (del_iff hd A i (hsub i q)).1 z q
  have hp := ids_ins (T.del f e.id) ep.id a (sub f e.id) hdd hto
  have hlen : (ids (T.del f e.id)).length + (ids (sub f e.id)).length = (ids f).length := by
    have h1 := (ents_del f 0 e.id e.par hd hpar).length_eq
    rw [List.length_append, N.mapE_len] at h1
    rw [← ents_ids (T.del f e.id) 0, ← ents_ids (sub f e.id) e.par, ← ents_ids f 0, List.length_map, List.length_map, List.length_map]
    omega
  have hne : sub f e.id ≠ none := by rw [A.tree]; simp
  refine ⟨ins_nodup a hdd hto hsn hdis, fun i q => ?_, h.nx1, h.nx2, ?_, ?_, ins_shape (del_shape h.shape _) _ _ _⟩
  · rcases List.mem_append.1 (hp.mem_iff.1 q) with z | z
    · exact h.lt i ((ids_del f e.id).subset z)
    · exact h.lt i (hsub i z)
  · rw [hp.length_eq, List.length_append, hlen]
    exact h.len
  · have hnd : ((rows f 0).map (·.1)).Nodup := by rw [rows_ids]; exact hd
    refine ok_ins (T.del f e.id) 0 ep.id a _ hdd (ok_del f 0 e.id h.ok) (fun m3 hm => ?_) (fun y k3 s3 hs => ?_)
    · obtain ⟨m4, y4, g1, g2⟩ := lev_row (T.del f e.id) 0 ep.id hdd hto
      rw [hm, Option.some.injEq] at g1
      subst g1
      have g3 := N.chain_level f 0 ep.id 0 (atL y4 m3) hd (del_mem A _ g2)
      have g4 : (atL y4 m3).level = m3 := rfl
      obtain ⟨m5, g5⟩ := sub_tree_ok f 0 e.id h.ok
      refine ok_shift (sub f e.id) m5 (m3 + 1) g5 (fun r hr5 => ?_)
      have g6 : m3 + 1 = ((N.chain f 0 ep.id).length : Int) := by omega
      rw [g6] at hr5
      apply Classical.byContradiction
      intro g7
      have g8 : ((rows (sub f e.id) ((N.chain f 0 ep.id).length : Int)).any fun r => decide (40 ≤ r.2.level)) = true := List.any_eq_true.2 ⟨r, hr5, decide_eq_true (by omega)⟩
      have := (N.deep_iff (sub f e.id) _ hne).1 g8
      omega
    · obtain ⟨pre6, x6, m6, k6, post6, A6⟩ := at_of (T.del f e.id) 0 ep.id hdd hto
      have g1 := A6.tree
      rw [hs] at g1
      simp only [Option.some.injEq, N.mk.injEq, true_and] at g1
      have g2 := uniq_row hnd (del_mem A _ A6.mem) A2.mem
      have g3 : x6.kind = x2.kind := by
        have := congrArg P.Itm.kind g2
        exact this
      obtain ⟨x7, k7, g4, g5, _⟩ := N.sub_ent f 0 ep hd hep
      have g6 := A2.tree
      rw [g4] at g6
      simp only [Option.some.injEq, N.mk.injEq, true_and] at g6
      have g7 : ep.x.kind = x7.kind := by rw [g5]; rfl
      rw [g1.1, g3, ← g6.1, ← g7]
      exact hk2
theorem vals_iff : ∀ (l : List L.Attr), P.valsE l = 0 ↔ ∀ a ∈ l, P.unfitE a.2 = 0
  | [] => by simp [P.valsE]
  | a :: l => by
    rw [P.valsE]
    by_cases q : P.unfitE a.2 = 0
    · rw [if_neg (by simpa using q), vals_iff l]
      simp [q]
    · rw [if_pos q]
      simp [q]
theorem rise_names : ∀ (l m : List L.Attr) (p : ByteArray), l.map (·.1) = m.map (·.1) → P.riseF p l = P.riseF p m
  | [], [], _, _ => rfl
  | [], _ :: _, _, h => by simp at h
  | _ :: _, [], _, h => by simp at h
  | a :: l, b :: m, p, h => by
    simp only [List.map_cons, List.cons.injEq] at h
    rw [P.rise_cons, P.rise_cons, h.1, rise_names l m b.1 h.2]
theorem rise_weak {p q : ByteArray} (h : L.ltB p q = true) : ∀ {l : List L.Attr}, P.riseF q l = true → P.riseF p l = true
  | [], _ => rfl
  | a :: l, hl => by
    rw [P.rise_cons, Bool.and_eq_true, Bool.and_eq_true] at hl ⊢
    exact ⟨⟨hl.1.1, L.lt_tr h hl.1.2⟩, hl.2⟩
theorem rise_del : ∀ (l : List L.Attr) (k : Nat) (p : ByteArray), P.riseF p l = true → P.riseF p (N.delT l k) = true
  | [], k, p, _ => by simp [N.delT, P.riseF]
  | a :: l, 0, p, h => by
    rw [P.rise_cons, Bool.and_eq_true, Bool.and_eq_true] at h
    exact rise_weak h.1.2 h.2
  | a :: l, k + 1, p, h => by
    rw [P.rise_cons, Bool.and_eq_true] at h
    show P.riseF p (a :: N.delT l k) = true
    rw [P.rise_cons, Bool.and_eq_true]
    exact ⟨h.1, rise_del l k a.1 h.2⟩
theorem has_cons_lt {a : L.Attr} {l : List L.Attr} {nm : ByteArray} (h : L.ltB a.1 nm = true) : placeT (a :: l) nm = placeT l nm + 1 ∧ hasT (a :: l) nm = hasT l nm := by
  have e : placeT (a :: l) nm = placeT l nm + 1 := by
    unfold placeT
    rw [List.takeWhile_cons_of_pos (p := fun b : L.Attr => L.ltB b.1 nm) h, List.length_cons]
  exact ⟨e, by unfold hasT; rw [e, List.getElem?_cons_succ]⟩
theorem place_cons_ge {a : L.Attr} {l : List L.Attr} {nm : ByteArray} (h : L.ltB a.1 nm = false) : placeT (a :: l) nm = 0 := by
  unfold placeT
  rw [List.takeWhile_cons_of_neg (p := fun b : L.Attr => L.ltB b.1 nm) (by rw [h]; simp)]
  rfl
theorem rise_ins : ∀ (l : List L.Attr) (p nm v : ByteArray), L.nameP nm = true → L.ltB p nm = true → P.riseF p l = true → hasT l nm = false → P.riseF p (N.insT l (placeT l nm) (nm, v)) = true
  | [], p, nm, v, h1, h2, _, _ => by
    show P.riseF p [(nm, v)] = true
    rw [P.rise_cons, h1, h2]
    rfl
  | a :: l, p, nm, v, h1, h2, h3, h4 => by
    rw [P.rise_cons, Bool.and_eq_true, Bool.and_eq_true] at h3
    cases q : L.ltB a.1 nm with
    | true =>
      obtain ⟨e1, e2⟩ := has_cons_lt (l := l) q
      rw [e2] at h4
      rw [e1]
      show P.riseF p (a :: N.insT l (placeT l nm) (nm, v)) = true
      rw [P.rise_cons, h3.1.1, h3.1.2, rise_ins l a.1 nm v h1 q h3.2 h4]
      rfl
    | false =>
      have e1 := place_cons_ge (l := l) q
      have hne : a.1 ≠ nm := by
        unfold hasT at h4
        rw [e1, List.getElem?_cons_zero] at h4
        exact of_decide_eq_false h4
      have hlt : L.ltB nm a.1 = true := by
        cases z : L.ltB nm a.1 with
        | true => rfl
        | false => exact absurd (L.lt_tri a.1 nm q z) hne
      rw [e1]
      show P.riseF p ((nm, v) :: a :: l) = true
      rw [P.rise_cons, P.rise_cons, h1, h2, h3.1.1, hlt, h3.2]
      rfl
theorem name_lt {nm : ByteArray} (h : L.nameP nm = true) : L.ltB L.noB nm = true := by
  have hne : nm.data.toList ≠ [] := fun q => by
    unfold L.nameP at h
    rw [q] at h
    cases h
  unfold L.ltB
  simp only [decide_eq_true_eq]
  cases hz : nm.data.toList with
  | nil => exact absurd hz hne
  | cons a l => exact List.nil_lt_cons a l
theorem set_names {l : List L.Attr} {k : Nat} {nm v : ByteArray} (hk : k < l.length) (h : l[k].1 = nm) : (l.set k (nm, v)).map (·.1) = l.map (·.1) := by
  rw [List.map_set]
  refine List.ext_getElem (by simp) fun i h1 h2 => ?_
  rw [List.getElem_set]
  split
  · rename_i e
    subst e
    simp [h]
  · rfl
theorem rise_with {l : List L.Attr} {nm : ByteArray} (v : ByteArray) (h1 : L.nameP nm = true) (h2 : P.riseF L.noB l = true) : P.riseF L.noB (withT l nm v) = true := by
  unfold withT
  cases q : hasT l nm with
  | true =>
    obtain ⟨hk, hn⟩ := has_lt q
    rw [if_pos rfl, rise_names _ _ _ (set_names hk hn)]
    exact h2
  | false =>
    rw [if_neg (by simp)]
    exact rise_ins l L.noB nm v h1 (name_lt h1) h2 q
theorem vals_with {l : List L.Attr} {nm v : ByteArray} (h1 : P.valsE l = 0) (h2 : P.unfitE v = 0) : P.valsE (withT l nm v) = 0 := by
  rw [vals_iff] at h1 ⊢
  intro a ha
  unfold withT at ha
  split at ha
  · rcases List.mem_or_eq_of_mem_set ha with q | q
    · exact h1 a q
    · rw [q]; exact h2
  · unfold N.insT at ha
    rcases List.mem_append.1 ha with q | q
    · exact h1 a (List.mem_of_mem_take q)
    · rcases List.mem_cons.1 q with z | z
      · rw [z]; exact h2
      · exact h1 a (List.mem_of_mem_drop z)
theorem vals_del {l : List L.Attr} (k : Nat) (h1 : P.valsE l = 0) : P.valsE (N.delT l k) = 0 := by
  rw [vals_iff] at h1 ⊢
  intro a ha
  unfold N.delT at ha
  rcases List.mem_append.1 ha with q | q
  · exact h1 a (List.mem_of_mem_take q)
  · exact h1 a (List.mem_of_mem_drop q)
/-- What is asked of an element's parts. -/
theorem elem_parts {x : P.Itm} (hk : x.kind = 1) : P.partsE x = 0 ↔ x.text = L.noB ∧ L.nameP x.name = true ∧ P.riseF L.noB x.attrs = true ∧ x.attrs.length ≤ 20 ∧ P.valsE x.attrs = 0 := by
  unfold P.partsE
  rw [if_neg (by omega)]
  by_cases q1 : x.text = L.noB
  · rw [if_neg (fun z => z.elim (fun y => y hk) (fun y => y q1))]
    by_cases q2 : L.nameP x.name = false ∨ P.riseF L.noB x.attrs = false
    · rw [if_pos q2]
      constructor
      · intro z; cases z
      · rintro ⟨_, z1, z2, _⟩
        rcases q2 with y | y
        · rw [z1] at y; cases y
        · rw [z2] at y; cases y
    · rw [if_neg q2]
      have q3 : L.nameP x.name = true := by
        cases z : L.nameP x.name with
        | true => rfl
        | false => exact absurd (Or.inl z) q2
      have q4 : P.riseF L.noB x.attrs = true := by
        cases z : P.riseF L.noB x.attrs with
        | true => rfl
        | false => exact absurd (Or.inr z) q2
      by_cases q5 : 20 < x.attrs.length
      · rw [if_pos q5]
        constructor
        · intro z; cases z
        · rintro ⟨_, _, _, z, _⟩; omega
      · rw [if_neg q5]
        exact ⟨fun z => ⟨q1, q3, q4, by omega, z⟩, fun z => z.2.2.2.2⟩
  · rw [if_pos (Or.inr q1)]
    constructor
    · intro z; cases z
    · rintro ⟨z, _⟩; exact absurd z q1
theorem setAttr_good {f : F} {nx : Int} (h : Good f nx) (id : Int) (nm v : ByteArray) : Good (setAttrF f id nm v).1 nx := by
  unfold setAttrF
  split
  · exact h
  · rename_i n hn
    obtain ⟨i, x, k, s⟩ := n
    dsimp only
    by_cases q1 : x.kind ≠ 1
    · rw [if_pos q1]; exact h
    · rw [if_neg q1]
      by_cases q2 : L.nameP nm = false
      · rw [if_pos q2]; exact h
      · rw [if_neg q2]
        by_cases q3 : P.unfitE v ≠ 0
        · rw [if_pos q3]; exact h
        · rw [if_neg q3]
          by_cases q4 : hasT x.attrs nm = false ∧ 20 ≤ x.attrs.length
          · rw [if_pos q4]; exact h
          · rw [if_neg q4]
            refine h.upd id _ (fun _ _ => rfl) (fun y k2 s2 hy => ?_)
            rw [hn] at hy
            simp only [Option.some.injEq, N.mk.injEq] at hy
            obtain ⟨rfl, rfl, rfl, rfl⟩ := hy
            have hp := sub_ok h.nd h.ok hn
            have hk : x.kind = 1 := Classical.byContradiction q1
            rw [elem_parts hk] at hp
            refine (elem_parts (x := { x with attrs := withT x.attrs nm v }) hk).2 ⟨hp.1, hp.2.1, rise_with v (by simpa using q2) hp.2.2.1, ?_, vals_with hp.2.2.2.2 (by simpa using q3)⟩
            show (withT x.attrs nm v).length ≤ 20
            unfold withT
            cases z : hasT x.attrs nm with
            | true => rw [if_pos rfl, List.length_set]; exact hp.2.2.2.1
            | false =>
              rw [if_neg (by simp), N.insT_len _ _ _ (place_le _ _)]
              have : ¬ 20 ≤ x.attrs.length := fun y => q4 ⟨z, y⟩
              omega
theorem delAttr_good {f : F} {nx : Int} (h : Good f nx) (id : Int) (nm : ByteArray) : Good (delAttrF f id nm).1 nx := by
  unfold delAttrF
  split
  · exact h
  · rename_i n hn
    obtain ⟨i, x, k, s⟩ := n
    dsimp only
    by_cases q1 : x.kind ≠ 1
    · rw [if_pos q1]; exact h
    · rw [if_neg q1]
      by_cases q2 : hasT x.attrs nm = false
      · rw [if_pos q2]; exact h
      · rw [if_neg q2]
        refine h.upd id _ (fun _ _ => rfl) (fun y k2 s2 hy => ?_)
        rw [hn] at hy
        simp only [Option.some.injEq, N.mk.injEq] at hy
        obtain ⟨rfl, rfl, rfl, rfl⟩ := hy
        have hp := sub_ok h.nd h.ok hn
        have hk : x.kind = 1 := Classical.byContradiction q1
        rw [elem_parts hk] at hp
        have hlt := (has_lt (l := x.attrs) (nm := nm) (by simpa using q2)).1
        refine (elem_parts (x := { x with attrs := N.delT x.attrs (placeT x.attrs nm) }) hk).2 ⟨hp.1, hp.2.1, rise_del _ _ _ hp.2.2.1, ?_, vals_del _ hp.2.2.2.2⟩
        show (N.delT x.attrs (placeT x.attrs nm)).length ≤ 20
        rw [N.delT_len _ _ hlt]
        have := hp.2.2.2.1
        omega
theorem setText_good {f : F} {nx : Int} (h : Good f nx) (id : Int) (t : ByteArray) : Good (N.setTextF f id t).1 nx := by
  unfold N.setTextF
  split
  · exact h
  · rename_i n hn
    obtain ⟨i, x, k, s⟩ := n
    dsimp only
    by_cases q1 : x.kind ≠ 2
    · rw [if_pos q1]; exact h
    · rw [if_neg q1]
      by_cases q2 : P.unfitE t ≠ 0
      · rw [if_pos q2]; exact h
      · rw [if_neg q2]
        refine h.upd id _ (fun _ _ => rfl) (fun y k2 s2 hy => ?_)
        rw [hn] at hy
        simp only [Option.some.injEq, N.mk.injEq] at hy
        obtain ⟨rfl, rfl, rfl, rfl⟩ := hy
        have hp := sub_ok h.nd h.ok hn
        have hk : x.kind = 2 := Classical.byContradiction q1
        unfold P.partsE at hp ⊢
        rw [if_pos hk] at hp
        rw [if_pos hk]
        by_cases z : x.name ≠ L.noB ∨ x.attrs ≠ []
        · rw [if_pos z] at hp; cases hp
        · rw [if_neg z]
          simpa using q2
end T
end Go.Proofs.YtidccohjehegjaaDoor
