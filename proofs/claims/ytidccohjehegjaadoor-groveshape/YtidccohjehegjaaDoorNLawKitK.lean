/- What the statements of layer grove need besides: a region's guarded calls, how many kids there are. -/
import Derived.Test.YtidccohjehegjaaDoorNLiftK
namespace Go.Proofs.YtidccohjehegjaaDoor
open Go.RowKit Go.Shelf
namespace N
open T
section
variable {P : Program} {ops : Array Oper} {Q : Exit → Act → World → Prop} {md : Region.Mode} {S : World → Prop} {z i f : Nat} {o : Oper} {done : Array Bool} {a : Act} {w : World}
/-- A call in a region, where its guard says that it is wanted. -/
theorem till_call_if (hr : Region.ready md ops done = [i]) (ho : ops[i]? = some o) (hw : Region.wanted o (yielded ops a.tmps) = true) (n : FuncId) (xs : Array Operand) (ts : Array TypeId) (hop : o.op = Op.call { callee := Callee.value (Operand.func n), args := xs, argTypes := ts })
    (eg : ∀ args w, (callFunc n args).run P w = .ok (.enter n args) w) (vs : Array Value) (hx : xs.map a.eval = vs) (R : Value → World → Prop) (hC : Calls P n vs w fun e w' => ∃ v, e = .returned v ∧ R v w')
    (h : ∀ v w', R v w' → S w' ∧ till P md ops Q S z f (done.setIfInBounds i true) (a.put o.dst v) w') : till P md ops Q S z (f + 1) done a w :=
  till_one hr ho fun _ hK => by
    rw [if_pos hw]
    subst hx
    unfold Oper.wp
    simp [execOp, hop, resolve, invoke, Deferred.ofValue, eg, Act.eval]
    rw [Oper.upon_enter]
    refine hC.mono ?_
    rintro e w' ⟨v, rfl, hv⟩
    exact hK.out _ _ (fun _ _ => (h v w' hv).1) (h v w' hv).2
theorem till_value_if {v : Value} {w' : World} (hr : Region.ready md ops done = [i]) (ho : ops[i]? = some o) (hw : Region.wanted o (yielded ops a.tmps) = true) (hrun : (execOp a.eval o).run P w = .ok (.value v) w') (hS : S w')
    (h : till P md ops Q S z f (done.setIfInBounds i true) (a.put o.dst v) w') : till P md ops Q S z (f + 1) done a w :=
  till_one hr ho fun K hK => by
    rw [if_pos hw]
    unfold Oper.wp
    rw [hrun]
    exact hK.out _ _ (fun _ _ => hS) h
end
theorem good_all {f : F} {nx : Int} (h : T.Good f nx) : sub f (rootF f) = f := by
  rcases h.shape with e | ⟨i, x, k, e, _⟩
  · rw [e]; simp [sub]
  · rw [e]; simp [sub, rootF]
theorem good_wfr {f : F} {nx : Int} (h : T.Good f nx) : wfI (rootF f) := by
  rcases h.shape with e | ⟨i, x, k, e, _⟩
  · rw [e]; exact wf_small (by decide) (by decide)
  · have : i ∈ ids f := by rw [e]; simp [ids]
    have h1 := h.lt i this
    have h2 := h.nx2
    rw [e]
    exact wf_small (show 0 ≤ i by omega) (show i ≤ 2147483647 by omega)
/-- How many kids nodes have together. -/
def ksum (l : List Nd) : Nat := (l.map fun e => e.kids.length).sum
theorem ksum_ents : ∀ (f : F) (q : Int), ksum (T.ents f q) + (tops f).length = (ids f).length
  | none, _ => by simp [T.ents, ksum, tops, ids]
  | some ⟨i, x, k, s⟩, q => by
    have h1 := ksum_ents k i
    have h2 := ksum_ents s q
    simp only [ksum] at h1 h2
    simp only [T.ents, ksum, tops, ids, List.map_cons, List.map_append, List.sum_cons, List.sum_append, List.length_cons, List.length_append]
    omega
theorem ksum_take (l : List Nd) (j : Nat) (h : j < l.length) : ksum (l.take (j + 1)) = ksum (l.take j) + l[j].kids.length := by
  unfold ksum
  rw [List.take_succ_eq_append_getElem h, List.map_append, List.sum_append]
  simp only [List.map_cons, List.map_nil, List.sum_cons, List.sum_nil, Nat.add_zero]
theorem ksum_le (l : List Nd) (j : Nat) : ksum (l.take j) ≤ ksum l := by
  unfold ksum
  conv => rhs; rw [← List.take_append_drop j l]
  rw [List.map_append, List.sum_append]
  omega
end N
end Go.Proofs.YtidccohjehegjaaDoor
