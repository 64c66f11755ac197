/- A node's attributes turned, in memory; what SetAttr and DelAttr do to a forest. -/
import Derived.Test.YtidccohjehegjaaDoorNSearchK
import Derived.Test.YtidccohjehegjaaDoorNAttrDK
import Derived.Test.YtidccohjehegjaaDoorK7
namespace Go.Proofs.YtidccohjehegjaaDoor
open Go.RowKit Go.Shelf
namespace T
/-- Attributes with one of a name. -/
def withT (l : List L.Attr) (nm v : ByteArray) : List L.Attr := if hasT l nm = true then l.set (placeT l nm) (nm, v) else N.insT l (placeT l nm) (nm, v)
def setAttrF (f : F) (id : Int) (nm v : ByteArray) : F × Int := match sub f id with
  | none => (f, 60)
  | some n => if n.x.kind ≠ 1 then (f, 68) else if L.nameP nm = false then (f, 63) else if P.unfitE v ≠ 0 then (f, P.unfitE v)
    else if hasT n.x.attrs nm = false ∧ 20 ≤ n.x.attrs.length then (f, 67) else (upd f id fun x => { x with attrs := withT x.attrs nm v }, 0)
def delAttrF (f : F) (id : Int) (nm : ByteArray) : F × Int := match sub f id with
  | none => (f, 60)
  | some n => if n.x.kind ≠ 1 then (f, 68) else if hasT n.x.attrs nm = false then (f, 63) else (upd f id fun x => { x with attrs := N.delT x.attrs (placeT x.attrs nm) }, 0)
theorem has_lt {l : List L.Attr} {nm : ByteArray} (h : hasT l nm = true) : ∃ hk : placeT l nm < l.length, l[placeT l nm].1 = nm := by
  unfold hasT at h
  by_cases hk : placeT l nm < l.length
  · rw [List.getElem?_eq_getElem hk] at h
    exact ⟨hk, of_decide_eq_true h⟩
  · rw [List.getElem?_eq_none (by omega)] at h
    cases h
end T
namespace N
open T
section
variable {B mb : Nat}
set_option maxHeartbeats 1000000 in
/-- A node's attributes turned. -/
theorem attrs_turn {L : List NS} {X X' : World} (h : GraphIn B mb L X) {e : Nd} {s : Slot} (hm : (e, s) ∈ L) {V : Value} {A : List (ByteArray × ByteArray)} (hcell : X'.heap[s.g]? = some (.cells (nodeV { e with x := { e.x with attrs := A } } { s with av := V }) 60 (0, 0)))
    (hrow : X'.ownsRow B 79 2 V A.length (encL A)) (hk : ∀ b, b < X.heap.size → b ≠ s.g → s.av.ownBlock ≠ some b → X'.heap[b]? = X.heap[b]?) (hg : ∀ b, V.ownBlock = some b → s.av.ownBlock = some b ∨ b = X.heap.size) (ho : X'.os = X.os ∧ X'.tape = X.tape ∧ X'.output = X.output ∧ X.heap.size ≤ X'.heap.size)
    (u : Nd → Nd) (hu : u e = { e with x := { e.x with attrs := A } }) :
    ∃ L', GraphIn B mb L' X' ∧ L'.map (·.1) = mapE e.id u (L.map (·.1)) ∧ (∀ b ∈ allB L', b ∈ allB L ∨ X.heap.size ≤ b) ∧ Turns (allB L) X X' := by
  have hidl : ((L.map (·.1)).map (·.id)).Nodup := by
    have := h.map.nd
    rw [idg, List.map_map] at this
    rw [List.map_map]
    exact this
  obtain ⟨L1, L2, rfl⟩ := List.append_of_mem hm
  have hn0 := h.nodes _ hm
  have hnd := blks_nodup h hm
  obtain ⟨b1, b2, b3⟩ := blks_parts hnd
  dsimp only at hn0 hnd b1 b2 b3
  have hs := lt_of_block hn0.cell
  have hVs : ∀ b, V.ownBlock = some b → b ≠ s.g := fun b hb => by
    rcases hg b hb with q | q
    · exact b1 b q
    · omega
  have hVk : ∀ b, V.ownBlock = some b → s.kv.ownBlock ≠ some b := fun b hb q => by
    rcases hg b hb with r | r
    · exact b3 b r q
    · have := (own_lt hn0.kids q).2; omega
  have hn' : NodeIn B { e with x := { e.x with attrs := A } } { s with av := V } X' :=
    ⟨hcell, hrow, own_same hn0.kids (fun b hb => hk b (own_lt hn0.kids hb).2 (b2 b hb) (fun q => b3 b q hb))⟩
  have hmb : ∀ b, b ∈ blks s → b ∈ mb :: allB (L1 ++ (e, s) :: L2) := fun b hb => List.mem_cons_of_mem _ (List.mem_flatMap.2 ⟨(e, s), by simp, hb⟩)
  have hnew : ∀ b ∈ blks { s with av := V }, b ∈ blks s ∨ V.ownBlock = some b := fun b hb => by
    rcases mem_blks.1 hb with q | q | q
    · exact Or.inl (mem_blks.2 (Or.inl q))
    · exact Or.inr q
    · exact Or.inl (mem_blks.2 (Or.inr (Or.inr q)))
  have hnew2 : ∀ b ∈ blks { s with av := V }, b ∈ blks s ∨ X.heap.size ≤ b := fun b hb => by
    rcases hnew b hb with q | q
    · exact Or.inl q
    · rcases hg b q with r | r
      · exact Or.inl (mem_blks.2 (Or.inr (Or.inl r)))
      · exact Or.inr (by omega)
  have hnd' : (blks { s with av := V }).Nodup := by
    have hkd : (s.kv.ownBlock.toList).Nodup := by cases s.kv.ownBlock <;> simp
    unfold blks
    cases hav : V.ownBlock with
    | none =>
      cases hkv : s.kv.ownBlock with
      | none => simp
      | some k => simp [Ne.symm (b2 k hkv)]
    | some v =>
      cases hkv : s.kv.ownBlock with
      | none => simp [Ne.symm (hVs v hav)]
      | some k =>
        have : v ≠ k := fun q => hVk v hav (by rw [q]; exact hkv)
        simp [Ne.symm (hVs v hav), Ne.symm (b2 k hkv), this]
  have hbl : ∀ b ∈ allB (L1 ++ ({ e with x := { e.x with attrs := A } }, { s with av := V }) :: L2), b ∈ allB (L1 ++ (e, s) :: L2) ∨ X.heap.size ≤ b := fun b hb => by
    simp only [allB_app, allB_cons, List.mem_append] at hb ⊢
    rcases hb with q | q | q
    · exact Or.inl (Or.inl q)
    · rcases hnew2 b q with r | r
      · exact Or.inl (Or.inr (Or.inl r))
      · exact Or.inr r
    · exact Or.inl (Or.inr (Or.inr q))
  refine ⟨L1 ++ ({ e with x := { e.x with attrs := A } }, { s with av := V }) :: L2, ?_, ?_, hbl, ?_⟩
  · refine graph_turn h (fun b hb hq => hk b hb (fun q => hq (mem_blks.2 (Or.inl q))) (fun q => hq (mem_blks.2 (Or.inr (Or.inl q))))) hn' hnew2 hnd' (fun b hb => ?_) rfl rfl
    rcases hnew b hb with q | q
    · exact h.ge b (hmb b q)
    · exact (own_lt hrow q).1
  · rw [List.map_append, List.map_cons] at hidl ⊢
    rw [List.map_append, List.map_cons, mapE_mid hidl, hu]
  · refine ⟨ho.1, ho.2.1, ho.2.2.1, ho.2.2.2, fun b hb hq => hk b hb (fun q => hq ?_) (fun q => hq ?_)⟩
    · rw [q]; exact List.mem_flatMap.2 ⟨(e, s), by simp, mem_blks.2 (Or.inl rfl)⟩
    · exact List.mem_flatMap.2 ⟨(e, s), by simp, mem_blks.2 (Or.inr (Or.inl q))⟩
end
section
variable {B tb mb : Nat} {f : F} {nx : Int} {L L' : List NS} {w w2 w' : World}
/-- A tree behind a node's item was turned. -/
theorem Left.item (h : TreeIn B tb mb f nx L w) (hd : (ids f).Nodup) (hb : Below w.heap.size w w2) {id : Int} (u : P.Itm → P.Itm) (hu : ∀ y, atL (u y) 0 = u (atL y 0)) (hG : GraphIn B mb L' w') (hL : L'.map (·.1) = mapE id (fun q => { q with x := u q.x }) (L.map (·.1)))
    (hbl : ∀ b ∈ allB L', b ∈ allB L ∨ w2.heap.size ≤ b) (ht : Turns (allB L) w2 w') : Left B tb mb L w (upd f id u) nx w' := by
  have htb := lt_of_block h.top
  have hsz := hb.size
  have hbw : ∀ b ∈ mb :: allB L', b ∈ mb :: allB L ∨ w.heap.size ≤ b := by
    intro b hb'
    rcases List.mem_cons.1 hb' with z | z
    · exact Or.inl (by rw [z]; exact List.mem_cons_self ..)
    · rcases hbl b z with y | y
      · exact Or.inl (List.mem_cons_of_mem _ y)
      · exact Or.inr (by omega)
  refine ⟨⟨mb, L', ⟨hG, ?_, ?_, h.tbB, fun z => ?_⟩, hbw⟩, (Turns.of_below hb).trans ht (fun b hq => Or.inl (List.mem_cons_of_mem _ (List.mem_cons_of_mem _ hq)))⟩
  · rw [hL, ents_upd f 0 id u hu hd]
    exact h.ents.map _
  · rw [ht.block tb (by omega) (fun z => h.tb0 (List.mem_cons_of_mem _ z)), hb.block tb htb, h.top, root_tops, root_tops, (upd_ids f id u).2]
  · rcases hbw tb z with y | y
    · exact h.tb0 y
    · omega
end
end N
end Go.Proofs.YtidccohjehegjaaDoor
