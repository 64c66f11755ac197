/- A region that draws its order, in a round of a range over a function: by the laws for such a region elsewhere. -/
import Derived.Test.YtidccohjehegjaaDoorK4
import Derived.Deep.RegionHeld3
import Derived.Test.YtidccohjehegjaaDoorK5
import Derived.OrdersIn
import Derived.TacticsIn
namespace Go.Proofs.YtidccohjehegjaaDoor
open Go.RowKit Go.Shelf
namespace N
section
variable {P : Program} {ops : Array Oper} {Q : Exit → Act → World → Prop} {md : Region.Mode} {S : World → Prop} {z : Nat}
/-- Whatever comes up: S holds behind it, as long as the last one has not come up. -/
def till (P : Program) (md : Region.Mode) (ops : Array Oper) (Q : Exit → Act → World → Prop) (S : World → Prop) (z : Nat) : Nat → Array Bool → Act → World → Prop
  | 0, done, a, w => Region.ready md ops done = [] ∧ Q .normal a w
  | f + 1, done, a, w => (Region.ready md ops done = [] → Q .normal a w) ∧
    ∀ i ∈ Region.ready md ops done, wpOp P ops Q i (fun a' w' => (i ≠ z → done.getD z true = false → S w') ∧ till P md ops Q S z f (done.setIfInBounds i true) a' w') a w
theorem till_any : ∀ (f : Nat) (done : Array Bool) (a : Act) (w : World), till P md ops Q S z f done a w → wpAny P md ops Q f done a w
  | 0, _, _, _, h => h
  | f + 1, _, _, _, h => ⟨h.1, fun i hi => wpOp_mono (fun a' w' q => till_any f _ a' w' q.2) (h.2 i hi)⟩
/-- Does the last one wait for a number? -/
def waits (md : Region.Mode) (ops : Array Oper) (z i : Nat) : Bool := match ops[z]? with
  | some o => o.after.any fun e => Region.binds md e && e.on == i
  | none => false
theorem till_first {T : World → Prop} (hT : ∀ w, S w → T w) {i : Nat} {oi : Oper} {v : Value} (hi : ops[i]? = some oi) (hiz : i ≠ z) (hsel : ∀ (j : Nat) (o : Oper) cs b, ops[j]? = some o → o.op ≠ .select cs b) (hQ : ∀ c a w, Q (.panic c) (a.put oi.dst v) w → Q (.panic c) a w) :
    ∀ (f : Nat) (done : Array Bool) (a : Act) (w : World), (∀ j oj, ops[j]? = some oj → j ≠ i → done.getD j true = false → (∀ e ∈ oj.after, Region.binds md e = true → e.on ≠ i) → oi.apart ops oj = true) →
      i ∈ Region.ready md ops done → YieldsIf P ops T oi v a → T w → (done.getD z true = false → S w) → ((∀ w, T w) ∨ (waits md ops z i = true ∧ done.getD z true = false)) → till P md ops Q S z f (done.setIfInBounds i true) (a.put oi.dst v) w → till P md ops Q S z (f + 1) done a w := by
  -- who comes up beside i waits not for it
  have beside : ∀ {done : Array Bool} {j : Nat}, i ∈ Region.ready md ops done → j ∈ Region.ready md ops done → done.getD j true = false ∧ ∃ oj, ops[j]? = some oj ∧ ∀ e ∈ oj.after, Region.binds md e = true → e.on ≠ i := by
    intro done j h1 h2
    obtain ⟨u, oj, hoj, hall⟩ := mem_ready.1 h2
    refine ⟨u, oj, hoj, fun e he hb q => ?_⟩
    have g1 := hall e he hb
    have g0 := (mem_ready.1 h1).1
    rw [q] at g1
    rcases Nat.lt_or_ge i done.size with r | r
    · simp [r] at g0 g1
      rw [g0] at g1
      cases g1
    · simp [Array.getElem?_eq_none r] at g1
  intro f
  induction f with
  | zero =>
    intro done a w _ hr hy hTw hS _ H
    refine ⟨fun h => (by rw [h] at hr; cases hr), fun j hj => ?_⟩
    by_cases e : j = i
    · rw [e]
      exact hy.wpOp hi hTw ⟨fun _ => hS, H⟩
    · have := ready_mono hj e
      rw [H.1] at this
      cases this
  | succ f ih =>
    intro done a w hfree hr hy hTw hS hz H
    refine ⟨fun h => (by rw [h] at hr; cases hr), fun j hj => ?_⟩
    by_cases e : j = i
    · rw [e]
      exact hy.wpOp hi hTw ⟨fun _ => hS, H⟩
    · obtain ⟨hun, oj, hoj, hnot⟩ := beside hr hj
      have hjz : waits md ops z i = true → j ≠ z := by
        rintro hw rfl
        unfold waits at hw
        rw [hoj] at hw
        obtain ⟨q, hq, hq2⟩ := Array.any_eq_true'.1 hw
        simp only [Bool.and_eq_true, beq_iff_eq] at hq2
        exact hnot q hq hq2.1 hq2.2
      have hzz : ∀ k, k ≠ i → (done.setIfInBounds i true).getD k true = done.getD k true := fun k hk => getD_set_ne true (Ne.symm hk)
      by_cases hjz2 : j = z
      · have hzT : ∀ w, T w := by
          rcases hz with q | q
          · exact q
          · exact absurd hjz2 (hjz q.1)
        refine wpOp_mono (fun a' w' q => ⟨fun r => absurd hjz2 r, ih (done.setIfInBounds j true) a' w' (fun k ok hk hki hu hno => hfree k ok hk hki ?_ hno) (ready_mono hr (Ne.symm e)) q.1 (hzT w') (fun r => ?_) (Or.inl hzT) ?_⟩) (wpOp_putIf hoj (hfree j oj hoj e hun hnot) (fun cs b => hsel i oi cs b hi) (fun cs b => hsel j oj cs b hoj) hQ hy (H.2 j (ready_mono hj e)))
        · by_cases r : j = k
          · rw [← r]; exact hun
          · rwa [getD_set_ne true r] at hu
        · exfalso
          rw [← hjz2] at r
          have hj2 : j < done.size := by
            rcases Nat.lt_or_ge j done.size with g | g
            · exact g
            · simp [Array.getElem?_eq_none g] at hun
          simp [hj2] at r
        · rw [Array.setIfInBounds_comm _ _ e]
          exact q.2.2
      · have hun2 : ∀ r : (done.setIfInBounds j true).getD z true = false, done.getD z true = false := fun r => by rwa [getD_set_ne true hjz2] at r
        have hSw : ∀ {w' : World}, (j ≠ z → (done.setIfInBounds i true).getD z true = false → S w') → i ≠ z → done.getD z true = false → S w' := fun q hiz r => q hjz2 (by rw [getD_set_ne true hiz]; exact r)
        refine wpOp_mono (fun a' w' q => ⟨fun _ r => hSw q.2.1 hiz r, ih (done.setIfInBounds j true) a' w' (fun k ok hk hki hu hno => hfree k ok hk hki ?_ hno) (ready_mono hr (Ne.symm e)) q.1 ?_ (fun r => hSw q.2.1 hiz (hun2 r)) ?_ ?_⟩) (wpOp_putIf hoj (hfree j oj hoj e hun hnot) (fun cs b => hsel i oi cs b hi) (fun cs b => hsel j oj cs b hoj) hQ hy (H.2 j (ready_mono hj e)))
        · by_cases r : j = k
          · rw [← r]; exact hun
          · rwa [getD_set_ne true r] at hu
        · rcases hz with z1 | z1
          · exact z1 w'
          · exact hT w' (hSw q.2.1 hiz z1.2)
        · rcases hz with z1 | z1
          · exact Or.inl z1
          · exact Or.inr ⟨z1.1, by rw [getD_set_ne true hjz2]; exact z1.2⟩
        · rw [Array.setIfInBounds_comm _ _ e]
          exact q.2.2
theorem till_take {i : Nat} {oi : Oper} {v : Value} {f : Nat} {done : Array Bool} {a : Act} {w : World} (hi : ops[i]? = some oi) (hs : Region.noSelect ops = true) (hf : Region.free md ops done i = true) (hr : (Region.ready md ops done).contains i = true) (hw : (i != z && (waits md ops z i && !done.getD z true)) = true)
    (hQ : ∀ c a w, Q (.panic c) (a.put oi.dst v) w → Q (.panic c) a w) (hy : YieldsIf P ops S oi v a) (hS : S w) (h : till P md ops Q S z f (done.setIfInBounds i true) (a.put oi.dst v) w) : till P md ops Q S z (f + 1) done a w := by
  simp only [Bool.and_eq_true, bne_iff_ne, Bool.not_eq_true'] at hw
  exact till_first (fun _ q => q) hi hw.1 (Region.noSelect_spec hs) hQ f done a w (Region.free_spec hi hf) (by simpa using hr) hy hS (fun _ => hS) (Or.inr hw.2) h
/-- What yields in whatever world. -/
theorem till_free {i : Nat} {oi : Oper} {v : Value} {f : Nat} {done : Array Bool} {a : Act} {w : World} (hi : ops[i]? = some oi) (hs : Region.noSelect ops = true) (hf : Region.free md ops done i = true) (hr : (Region.ready md ops done).contains i = true) (hw : (i != z) = true)
    (hQ : ∀ c a w, Q (.panic c) (a.put oi.dst v) w → Q (.panic c) a w) (hy : YieldsIf P ops (fun _ => True) oi v a) (hS : S w) (h : till P md ops Q S z f (done.setIfInBounds i true) (a.put oi.dst v) w) : till P md ops Q S z (f + 1) done a w := by
  simp only [bne_iff_ne] at hw
  exact till_first (T := fun _ => True) (fun _ _ => trivial) hi hw (Region.noSelect_spec hs) hQ f done a w (Region.free_spec hi hf) (by simpa using hr) hy trivial (fun _ => hS) (Or.inl fun _ => trivial) h
/-- One alone may come up. -/
theorem till_one {i : Nat} {o : Oper} {f : Nat} {done : Array Bool} {a : Act} {w : World} (hr : Region.ready md ops done = [i]) (ho : ops[i]? = some o)
    (h : ∀ K : Act → World → Prop, Shut (∀ a w, (i ≠ z → done.getD z true = false → S w) → till P md ops Q S z f (done.setIfInBounds i true) a w → K a w) → if Region.wanted o (yielded ops a.tmps) = true then Oper.wp P o a w K Q else K (a.put o.dst undef) w) : till P md ops Q S z (f + 1) done a w := by
  refine ⟨fun q => (by rw [hr] at q; cases q), fun j hj => ?_⟩
  rw [hr, List.mem_singleton] at hj
  rw [hj]
  exact wpOp_step ho (fun K' hK => h K' (fun a w hS hW => hK a w ⟨hS, hW⟩))
theorem till_done {done : Array Bool} {a : Act} {w : World} (hr : Region.ready md ops done = []) (h : Q .normal a w) : ∀ f, till P md ops Q S z f done a w
  | 0 => ⟨hr, h⟩
  | _ + 1 => ⟨fun _ => h, by rw [hr]; simp⟩
theorem till_begin {id : Nat} {a : Act} {w : World} (hm : P.follows .mixedOrders = true) (h : till P .any ops Q S z ops.size (Array.replicate ops.size false) a w.drew) : (Code.region id ops true).wp P Q a w :=
  wp_region_any hm (till_any _ _ _ _ h)
end
end N
end Go.Proofs.YtidccohjehegjaaDoor
namespace Go.Proofs.YtidccohjehegjaaDoor
open Go.RowKit Go.Shelf
namespace N
section
variable {P : Program} {ops : Array Oper} {Q : Exit → Act → World → Prop} {md : Region.Mode} {S : World → Prop} {z i f : Nat} {o : Oper} {done : Array Bool} {a : Act} {w : World}
theorem till_load (hr : Region.ready md ops done = [i]) (ho : ops[i]? = some o) (hg : o.guard = none) (t : TypeId) (x : Operand) (hop : o.op = Op.load t x) (va v : Value) (hx : a.eval x = va) (hrun : (Instr.loadAt t va).run P w = .ok v w) (hS : S w)
    (h : till P md ops Q S z f (done.setIfInBounds i true) (a.put o.dst v) w) : till P md ops Q S z (f + 1) done a w :=
  till_one hr ho fun _ hK => step_load hg t x hop va v hx hrun (hK.out _ _ (fun _ _ => hS) h)
theorem till_store {w' : World} (hr : Region.ready md ops done = [i]) (ho : ops[i]? = some o) (hg : o.guard = none) (t : TypeId) (x y : Operand) (hop : o.op = Op.store t x y) (va v : Value) (hx : a.eval x = va) (hy : a.eval y = v) (hrun : (Instr.storeAt t va v).run P w = .ok () w') (hS : i ≠ z → S w')
    (h : till P md ops Q S z f (done.setIfInBounds i true) (a.put o.dst undef) w') : till P md ops Q S z (f + 1) done a w :=
  till_one hr ho fun _ hK => step_store hg t x y hop va v hx hy hrun (hK.out _ _ (fun hn _ => hS hn) h)
theorem till_value {v : Value} {w' : World} (hr : Region.ready md ops done = [i]) (ho : ops[i]? = some o) (hg : o.guard = none) (hrun : (execOp a.eval o).run P w = .ok (.value v) w') (hS : S w')
    (h : till P md ops Q S z f (done.setIfInBounds i true) (a.put o.dst v) w') : till P md ops Q S z (f + 1) done a w :=
  till_one hr ho fun K hK => by
    have hw : Region.wanted o (yielded ops a.tmps) = true := by simp [Region.wanted, hg]
    rw [if_pos hw]
    unfold Oper.wp
    rw [hrun]
    exact hK.out _ _ (fun _ _ => hS) h
theorem till_call (hr : Region.ready md ops done = [i]) (ho : ops[i]? = some o) (hg : o.guard = none) (n : FuncId) (xs : Array Operand) (ts : Array TypeId) (hop : o.op = Op.call { callee := Callee.value (Operand.func n), args := xs, argTypes := ts })
    (eg : ∀ args w, (callFunc n args).run P w = .ok (.enter n args) w) (vs : Array Value) (hx : xs.map a.eval = vs) (R : Value → World → Prop) (hC : Calls P n vs w fun e w' => ∃ v, e = .returned v ∧ R v w')
    (h : ∀ v w', R v w' → S w' ∧ till P md ops Q S z f (done.setIfInBounds i true) (a.put o.dst v) w') : till P md ops Q S z (f + 1) done a w :=
  till_one hr ho fun _ hK => step_calls hg n xs ts hop eg vs hx R hC fun v w' hv => hK.out _ _ (fun _ _ => (h v w' hv).1) (h v w' hv).2
end
end N
end Go.Proofs.YtidccohjehegjaaDoor
namespace Go.Proofs.YtidccohjehegjaaDoor
open Go.RowKit
namespace Y
/-- .. by no runaway. -/
def noOut (Q : Exit → Act → World → Prop) : Exit → Act → World → Prop
  | .outgrown, _, _ => False
  | e, a, w => Q e a w
theorem no_lets (Q : Exit → Act → World → Prop) : ¬ LetsOut (noOut Q) := by
  rintro ⟨a, w, h⟩
  exact h
section
variable {P : Program} {n l : Nat}
theorem rows_in {row : String} {args : Array Value} {w : World} {R : Value → World → Prop} (h : Rows P row args w R) : RowsIn (Fence.wide.inRound l) n P row args w R := fun c cs _ =>
  let ⟨v, w'', hv, hs⟩ := h c cs
  ⟨v, w'', hv, stepsIn_wide.2 hs⟩
theorem upon_in {o : Oper} {a : Act} {K K' : Act → World → Prop} {Q : Exit → Act → World → Prop} (hK : ∀ a w, K a w → K' a w) (r : Result Next) (h : o.upon P a K (noOut Q) r) : o.uponIn (Fence.wide.inRound l) n P a K' Q r := by
  cases r with
  | ok x w' =>
    cases x with
    | value v => exact hK _ _ h
    | skip => exact hK _ _ h
    | defer d => exact hK _ _ h
    | enter f args =>
      refine ⟨fun h => (by cases h), CallsIn.inRound l (callsIn_wide.2 (Calls.mono h ?_))⟩
      rintro e w'' he
      cases e with
      | returned v => exact hK _ _ he
      | panicked ch => exact he
      | outgrown => exact absurd he (no_lets Q)
    | row row args => exact ⟨fun h => (by cases h), rows_in (Rows.mono h fun v w'' hv => hK _ _ hv)⟩
    | _ => exact absurd h (by simp [Oper.upon])
  | halt x w' =>
    cases x with
    | panic v => exact h
    | _ => exact absurd h (by simp [Oper.upon])
theorem any_in {ops : Array Oper} {md : Region.Mode} {Q : Exit → Act → World → Prop} (hnd : ∀ (i : Nat) (o : Oper) (c : Call), ops[i]? = some o → o.op ≠ Op.defer c) : ∀ (f : Nat) (done : Array Bool) (a : Act) (w : World), wpAny P md ops (noOut Q) f done a w → wpAnyIn (Fence.wide.inRound l) n P md ops Q f done a w
  | 0, _, _, _, h => h
  | f + 1, done, a, w, h => by
    refine ⟨h.1, fun i hi => ?_⟩
    have h2 := h.2 i hi
    unfold wpOp at h2
    unfold wpOpIn
    cases ho : ops[i]? with
    | none =>
      rw [ho] at h2
      exact any_in hnd f _ _ _ h2
    | some o =>
      rw [ho] at h2
      simp only at h2 ⊢
      by_cases hw : Region.wanted o (yielded ops a.tmps) = true
      · rw [if_pos hw] at h2 ⊢
        rcases h2 with h2 | h2
        · refine ⟨fun _ _ => trivial, ?_⟩
          rw [show (Fence.wide.inRound l).round = some l from rfl, Oper.semAt_some _ _ _ (fun c => hnd i o c ho)]
          exact upon_in (any_in hnd f _) _ h2
        · exact absurd h2.2 (no_lets Q)
      · rw [if_neg hw] at h2 ⊢
        exact ⟨fun _ _ => trivial, any_in hnd f _ _ _ h2⟩
/-- No operation is a deferred call. -/
def noDefer (ops : Array Oper) : Bool := ops.all fun (o : Oper) => match o.op with | .defer _ => false | _ => true
theorem no_defer {ops : Array Oper} (h : noDefer ops = true) : ∀ (i : Nat) (o : Oper) (c : Call), ops[i]? = some o → o.op ≠ Op.defer c := by
  intro i o c ho hc
  have := Array.all_eq_true_iff_forall_mem.1 h o (Array.mem_of_getElem? ho)
  rw [hc] at this
  cases this
theorem region_in {ops : Array Oper} {id : Nat} {Q : Exit → Act → World → Prop} {a : Act} {w : World} (hm : P.follows .mixedOrders = true) (hnd : noDefer ops = true) (h : wpAny P .any ops (noOut Q) ops.size (Array.replicate ops.size false) a w.drew) : (Code.region id ops true).wpIn (Fence.wide.inRound l) n P Q a w :=
  wpIn_region_any hm (any_in (no_defer hnd) _ _ _ _ h)
end
end Y
namespace N
theorem till_round {P : Program} {n l : Nat} {ops : Array Oper} {id z : Nat} {S : World → Prop} {Q : Exit → Act → World → Prop} {a : Act} {w : World} (hm : P.follows .mixedOrders = true) (hnd : Y.noDefer ops = true) (h : till P .any ops (Y.noOut Q) S z ops.size (Array.replicate ops.size false) a w.drew) : (Code.region id ops true).wpIn (Fence.wide.inRound l) n P Q a w :=
  Y.region_in hm hnd (till_any _ _ _ _ h)
end N
end Go.Proofs.YtidccohjehegjaaDoor
