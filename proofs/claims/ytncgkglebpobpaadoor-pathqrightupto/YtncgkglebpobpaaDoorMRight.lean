/- PROVED: of any row of steps of bulk at most 1048576, PathqRight returns true: any steps are a query just if the document says so, and are written as it says, or refused; the steps read afterwards as they read before. Its conditions: the tables of glyph, pathq and strconv lie as the program's text lays them. -/
import Derived.Test.YtncgkglebpobpaaDoorQShelf
import Derived.Deep.RegionHeld3
import Derived.Deep.RegionLaw
import Derived.Test.YtncgkglebpobpaaDoorQRRight
import Derived.Test.YtncgkglebpobpaaDoorGPut
import Derived.Lib.QuietBelow
import Derived.Below
import Derived.Test.YtncgkglebpobpaaDoorERUndo
import Derived.Test.YtncgkglebpobpaaDoorQPrint
import Derived.Test.YtncgkglebpobpaaDoorQSame
import Derived.Test.YtncgkglebpobpaaDoorQAlive
import Derived.Test.YtncgkglebpobpaaDoorQLiftU
namespace Go.Proofs.YtncgkglebpobpaaDoor
open Go.RowKit Go.Shelf
namespace N
section
variable {P : Program} {ops : Array Oper} {Q : Exit → Act → World → Prop} {md : Region.Mode} {S : World → Prop} {z : Nat}
/-- Whatever comes up: S holds behind it, as long as the last one has not come up. -/
def till (P : Program) (md : Region.Mode) (ops : Array Oper) (Q : Exit → Act → World → Prop) (S : World → Prop) (z : Nat) : Nat → Array Bool → Act → World → Prop
  | 0, done, a, w => Region.ready md ops done = [] ∧ Q .normal a w
  | f + 1, done, a, w => (Region.ready md ops done = [] → Q .normal a w) ∧
    ∀ i ∈ Region.ready md ops done, wpOp P ops Q i (fun a' w' => (i ≠ z → done.getD z true = false → S w') ∧ till P md ops Q S z f (done.setIfInBounds i true) a' w') a w
theorem till_any : ∀ (f : Nat) (done : Array Bool) (a : Act) (w : World), till P md ops Q S z f done a w → wpAny P md ops Q f done a w
  | 0, _, _, _, h => h
  | f + 1, _, _, _, h => ⟨h.1, fun i hi => wpOp_mono (fun a' w' q => till_any f _ a' w' q.2) (h.2 i hi)⟩
/-- Does the last one wait for a number? -/
def waits (md : Region.Mode) (ops : Array Oper) (z i : Nat) : Bool := match ops[z]? with
  | some o => o.after.any fun e => Region.binds md e && e.on == i
  | none => false
theorem till_first {T : World → Prop} (hT : ∀ w, S w → T w) {i : Nat} {oi : Oper} {v : Value} (hi : ops[i]? = some oi) (hiz : i ≠ z) (hsel : ∀ (j : Nat) (o : Oper) cs b, ops[j]? = some o → o.op ≠ .select cs b) (hQ : ∀ c a w, Q (.panic c) (a.put oi.dst v) w → Q (.panic c) a w) :
    ∀ (f : Nat) (done : Array Bool) (a : Act) (w : World), (∀ j oj, ops[j]? = some oj → j ≠ i → done.getD j true = false → (∀ e ∈ oj.after, Region.binds md e = true → e.on ≠ i) → oi.apart ops oj = true) →
      i ∈ Region.ready md ops done → YieldsIf P ops T oi v a → T w → (done.getD z true = false → S w) → ((∀ w, T w) ∨ (waits md ops z i = true ∧ done.getD z true = false)) → till P md ops Q S z f (done.setIfInBounds i true) (a.put oi.dst v) w → till P md ops Q S z (f + 1) done a w := by
  -- who comes up beside i waits not for it
  have beside : ∀ {done : Array Bool} {j : Nat}, i ∈ Region.ready md ops done → j ∈ Region.ready md ops done → done.getD j true = false ∧ ∃ oj, ops[j]? = some oj ∧ ∀ e ∈ oj.after, Region.binds md e = true → e.on ≠ i := by
    intro done j h1 h2
    obtain ⟨u, oj, hoj, hall⟩ := mem_ready.1 h2
    refine ⟨u, oj, hoj, fun e he hb q => ?_⟩
    have g1 := hall e he hb
    have g0 := (mem_ready.1 h1).1
    rw [q] at g1
    rcases Nat.lt_or_ge i done.size with r | r
    · simp [r] at g0 g1
      rw [g0] at g1
      cases g1
    · simp [Array.getElem?_eq_none r] at g1
  intro f
  induction f with
  | zero =>
    intro done a w _ hr hy hTw hS _ H
    refine ⟨fun h => (by rw [h] at hr; cases hr), fun j hj => ?_⟩
    by_cases e : j = i
    · rw [e]
      exact hy.wpOp hi hTw ⟨fun _ => hS, H⟩
    · have := ready_mono hj e
      rw [H.1] at this
      cases this
  | succ f ih =>
    intro done a w hfree hr hy hTw hS hz H
    refine ⟨fun h => (by rw [h] at hr; cases hr), fun j hj => ?_⟩
    by_cases e : j = i
    · rw [e]
      exact hy.wpOp hi hTw ⟨fun _ => hS, H⟩
    · obtain ⟨hun, oj, hoj, hnot⟩ := beside hr hj
      have hjz : waits md ops z i = true → j ≠ z := by
        rintro hw rfl
        unfold waits at hw
        rw [hoj] at hw
        obtain ⟨q, hq, hq2⟩ := Array.any_eq_true'.1 hw
        simp only [Bool.and_eq_true, beq_iff_eq] at hq2
        exact hnot q hq hq2.1 hq2.2
      have hzz : ∀ k, k ≠ i → (done.setIfInBounds i true).getD k true = done.getD k true := fun k hk => getD_set_ne true (Ne.symm hk)
      by_cases hjz2 : j = z
      · have hzT : ∀ w, T w := by
          rcases hz with q | q
          · exact q
          · exact absurd hjz2 (hjz q.1)
        refine wpOp_mono (fun a' w' q => ⟨fun r => absurd hjz2 r, ih (done.setIfInBounds j true) a' w' (fun k ok hk hki hu hno => hfree k ok hk hki ?_ hno) (ready_mono hr (Ne.symm e)) q.1 (hzT w') (fun r => ?_) (Or.inl hzT) ?_⟩) (wpOp_putIf hoj (hfree j oj hoj e hun hnot) (fun cs b => hsel i oi cs b hi) (fun cs b => hsel j oj cs b hoj) hQ hy (H.2 j (ready_mono hj e)))
        · by_cases r : j = k
          · rw [← r]; exact hun
          · rwa [getD_set_ne true r] at hu
        · exfalso
          rw [← hjz2] at r
          have hj2 : j < done.size := by
            rcases Nat.lt_or_ge j done.size with g | g
            · exact g
            · simp [Array.getElem?_eq_none g] at hun
          simp [hj2] at r
        · rw [Array.setIfInBounds_comm _ _ e]
          exact q.2.2
      · have hun2 : ∀ r : (done.setIfInBounds j true).getD z true = false, done.getD z true = false := fun r => by rwa [getD_set_ne true hjz2] at r
        have hSw : ∀ {w' : World}, (j ≠ z → (done.setIfInBounds i true).getD z true = false → S w') → i ≠ z → done.getD z true = false → S w' := fun q hiz r => q hjz2 (by rw [getD_set_ne true hiz]; exact r)
        refine wpOp_mono (fun a' w' q => ⟨fun _ r => hSw q.2.1 hiz r, ih (done.setIfInBounds j true) a' w' (fun k ok hk hki hu hno => hfree k ok hk hki ?_ hno) (ready_mono hr (Ne.symm e)) q.1 ?_ (fun r => hSw q.2.1 hiz (hun2 r)) ?_ ?_⟩) (wpOp_putIf hoj (hfree j oj hoj e hun hnot) (fun cs b => hsel i oi cs b hi) (fun cs b => hsel j oj cs b hoj) hQ hy (H.2 j (ready_mono hj e)))
        · by_cases r : j = k
          · rw [← r]; exact hun
          · rwa [getD_set_ne true r] at hu
        · rcases hz with z1 | z1
          · exact z1 w'
          · exact hT w' (hSw q.2.1 hiz z1.2)
        · rcases hz with z1 | z1
          · exact Or.inl z1
          · exact Or.inr ⟨z1.1, by rw [getD_set_ne true hjz2]; exact z1.2⟩
        · rw [Array.setIfInBounds_comm _ _ e]
          exact q.2.2
theorem till_take {i : Nat} {oi : Oper} {v : Value} {f : Nat} {done : Array Bool} {a : Act} {w : World} (hi : ops[i]? = some oi) (hs : Region.noSelect ops = true) (hf : Region.free md ops done i = true) (hr : (Region.ready md ops done).contains i = true) (hw : (i != z && (waits md ops z i && !done.getD z true)) = true)
    (hQ : ∀ c a w, Q (.panic c) (a.put oi.dst v) w → Q (.panic c) a w) (hy : YieldsIf P ops S oi v a) (hS : S w) (h : till P md ops Q S z f (done.setIfInBounds i true) (a.put oi.dst v) w) : till P md ops Q S z (f + 1) done a w := by
  simp only [Bool.and_eq_true, bne_iff_ne, Bool.not_eq_true'] at hw
  exact till_first (fun _ q => q) hi hw.1 (Region.noSelect_spec hs) hQ f done a w (Region.free_spec hi hf) (by simpa using hr) hy hS (fun _ => hS) (Or.inr hw.2) h
/-- What yields in whatever world. -/
theorem till_free {i : Nat} {oi : Oper} {v : Value} {f : Nat} {done : Array Bool} {a : Act} {w : World} (hi : ops[i]? = some oi) (hs : Region.noSelect ops = true) (hf : Region.free md ops done i = true) (hr : (Region.ready md ops done).contains i = true) (hw : (i != z) = true)
    (hQ : ∀ c a w, Q (.panic c) (a.put oi.dst v) w → Q (.panic c) a w) (hy : YieldsIf P ops (fun _ => True) oi v a) (hS : S w) (h : till P md ops Q S z f (done.setIfInBounds i true) (a.put oi.dst v) w) : till P md ops Q S z (f + 1) done a w := by
  simp only [bne_iff_ne] at hw
  exact till_first (T := fun _ => True) (fun _ _ => trivial) hi hw (Region.noSelect_spec hs) hQ f done a w (Region.free_spec hi hf) (by simpa using hr) hy trivial (fun _ => hS) (Or.inl fun _ => trivial) h
/-- One alone may come up. -/
theorem till_one {i : Nat} {o : Oper} {f : Nat} {done : Array Bool} {a : Act} {w : World} (hr : Region.ready md ops done = [i]) (ho : ops[i]? = some o)
    (h : ∀ K : Act → World → Prop, Shut (∀ a w, (i ≠ z → done.getD z true = false → S w) → till P md ops Q S z f (done.setIfInBounds i true) a w → K a w) → if Region.wanted o (yielded ops a.tmps) = true then Oper.wp P o a w K Q else K (a.put o.dst undef) w) : till P md ops Q S z (f + 1) done a w := by
  refine ⟨fun q => (by rw [hr] at q; cases q), fun j hj => ?_⟩
  rw [hr, List.mem_singleton] at hj
  rw [hj]
  exact wpOp_step ho (fun K' hK => h K' (fun a w hS hW => hK a w ⟨hS, hW⟩))
theorem till_done {done : Array Bool} {a : Act} {w : World} (hr : Region.ready md ops done = []) (h : Q .normal a w) : ∀ f, till P md ops Q S z f done a w
  | 0 => ⟨hr, h⟩
  | _ + 1 => ⟨fun _ => h, by rw [hr]; simp⟩
theorem till_begin {id : Nat} {a : Act} {w : World} (hm : P.follows .mixedOrders = true) (h : till P .any ops Q S z ops.size (Array.replicate ops.size false) a w.drew) : (Code.region id ops true).wp P Q a w :=
  wp_region_any hm (till_any _ _ _ _ h)
end
theorem step_calls {P : Program} {ops : Array Oper} {o : Oper} {a : Act} {w : World} {K : Act → World → Prop} {Q : Exit → Act → World → Prop} {E : Prop}
    (hg : o.guard = none) (n : FuncId) (xs : Array Operand) (ts : Array TypeId) (hop : o.op = Op.call { callee := Callee.value (Operand.func n), args := xs, argTypes := ts })
    (eg : ∀ args w, (callFunc n args).run P w = .ok (.enter n args) w) (vs : Array Value) (hx : xs.map a.eval = vs) (R : Value → World → Prop) (hC : Calls P n vs w fun e w' => ∃ v, e = .returned v ∧ R v w') (hK : ∀ v w', R v w' → K (a.put o.dst v) w') :
    if Region.wanted o (yielded ops a.tmps) = true then Oper.wp P o a w K Q else E := by
  have hw : Region.wanted o (yielded ops a.tmps) = true := by simp [Region.wanted, hg]
  rw [if_pos hw]
  subst hx
  unfold Oper.wp
  simp [execOp, hop, resolve, invoke, Deferred.ofValue, eg, Act.eval]
  rw [Oper.upon_enter]
  refine hC.mono ?_
  rintro e w' ⟨v, rfl, hr⟩
  exact hK v w' hr
theorem step_calls1 {P : Program} {ops : Array Oper} {o : Oper} {a : Act} {w : World} {K : Act → World → Prop} {Q : Exit → Act → World → Prop} {E : Prop}
    (hg : o.guard = none) (n : FuncId) (x : Operand) (ts : Array TypeId) (hop : o.op = Op.call { callee := Callee.value (Operand.func n), args := #[x], argTypes := ts })
    (eg : ∀ args w, (callFunc n args).run P w = .ok (.enter n args) w) (v : Value) (hx : a.eval x = v) (R : Value → World → Prop) (hC : Calls P n #[v] w fun e w' => ∃ v, e = .returned v ∧ R v w') (hK : ∀ v w', R v w' → K (a.put o.dst v) w') :
    if Region.wanted o (yielded ops a.tmps) = true then Oper.wp P o a w K Q else E :=
  step_calls hg n #[x] ts hop eg #[v] (by simp [hx]) R hC hK
/-- Two may come up, and nothing is asked of the world. -/
theorem till_two {P : Program} {ops : Array Oper} {Q : Exit → Act → World → Prop} {md : Region.Mode} {z i j : Nat} {oi oj : Oper} {f : Nat} {done : Array Bool} {a : Act} {w : World} (hr : Region.ready md ops done = [i, j]) (hi : ops[i]? = some oi) (hj : ops[j]? = some oj)
    (h1 : ∀ K : Act → World → Prop, Shut (∀ a w, till P md ops Q (fun _ => True) z f (done.setIfInBounds i true) a w → K a w) → if Region.wanted oi (yielded ops a.tmps) = true then Oper.wp P oi a w K Q else K (a.put oi.dst undef) w)
    (h2 : ∀ K : Act → World → Prop, Shut (∀ a w, till P md ops Q (fun _ => True) z f (done.setIfInBounds j true) a w → K a w) → if Region.wanted oj (yielded ops a.tmps) = true then Oper.wp P oj a w K Q else K (a.put oj.dst undef) w) : till P md ops Q (fun _ => True) z (f + 1) done a w := by
  refine ⟨fun q => (by rw [hr] at q; cases q), fun k hk => ?_⟩
  rw [hr] at hk
  simp only [List.mem_cons, List.not_mem_nil, or_false] at hk
  rcases hk with rfl | rfl
  · exact wpOp_step hi (fun K' hK => h1 K' (fun a w hW => hK a w ⟨fun _ _ => trivial, hW⟩))
  · exact wpOp_step hj (fun K' hK => h2 K' (fun a w hW => hK a w ⟨fun _ _ => trivial, hW⟩))
end N
end Go.Proofs.YtncgkglebpobpaaDoor
namespace Go.Proofs.YtncgkglebpobpaaDoor
open Go.RowKit Go.Shelf Go.Sort
set_option maxRecDepth 100000 in
set_option maxHeartbeats 8000000 in
theorem rright_any (V : Value) (l : List SV) (w : World) (I : Hid (StepsIn V l w)) (F : Hid (∀ x ∈ l, FitS 1048576 x.1)) (r : Bool) (HR : Hid (Q.rightLB (l.map (·.1)) = r)) :
    Calls Tryd.prog 17 #[V] w fun e w' => e = .returned (.bool r) ∧ Below w.heap.size w w' := by
  obtain ⟨ao, cap, rfl, hlen, hc⟩ := I.out.1
  have HC := hid hc
  clear hc
  obtain ⟨b, HB0⟩ : ∃ b, Hid (l.all (fun x => Q.rightSB x.1) = b) := ⟨_, hid rfl⟩
  have HRB : Hid (((decide (1 ≤ l.length) && decide (l.length ≤ 20)) && b) = r) := hid (by rw [← HR.out, ← HB0.out]; unfold Q.rightLB; rw [List.length_map, List.all_map]; rfl)
  have HNO : Hid (b = false → r = false) := hid (fun h => by rw [← HRB.out, h, Bool.and_false])
  have HA0 : Hid ((l.drop 0).all (fun x => Q.rightSB x.1) = b) := hid (by rw [List.drop_zero]; exact HB0.out)
  clear HR HB0
  go_enter Tryd.func17, Tryd.ntmps17
  go_wp2
  go_loopw [3] (fun v3 W => ∃ j : Nat, v3 = .int .i64 (j : Int) ∧ j ≤ l.length ∧ Hid ((l.drop j).all (fun x => Q.rightSB x.1) = b) ∧ Hid (Below w.heap.size w W)) (fun v3 _ => l.length - (intOf v3).toNat)
  case atStart => exact ⟨0, rfl, by omega, HA0, hid (Below.refl _ _)⟩
  case round =>
    clear HA0
    obtain ⟨j, rfl, hj, HA, HB⟩ := hrel
    by_cases hlt : j < l.length
    · have hlt' : (j : Int) < (l.length : Int) := by omega
      obtain ⟨g, o, rfl, hg, hcc⟩ := HC.out (by rintro rfl; simp at hlt)
      obtain ⟨k0, k1, k2, k3⟩ := hcc j hlt
      have c0 := (HB.out.cell (p := ⟨g, o + j * 4, none⟩) hg).trans k0
      have c1 := (HB.out.cell (p := ⟨g, o + j * 4 + 1, none⟩) hg).trans k1
      have c2 := (HB.out.cell (p := ⟨g, o + j * 4 + 2, none⟩) hg).trans k2
      have c3 := (HB.out.cell (p := ⟨g, o + j * 4 + 3, none⟩) hg).trans k3
      have hA := HA.out
      rw [all_drop _ l j hlt] at hA
      have hF := F.out _ (List.getElem_mem hlt)
      have hP := (I.out.2 _ (List.getElem_mem hlt)).below HB.out
      have HPJ : Hid (l[j] = l[j]) := hid rfl
      generalize l[j] = p at *
      obtain ⟨⟨ax, te, nm, ps⟩, v⟩ := p
      simp only at c0 c1 c2 c3 hF hP hA
      have hP2 := hP
      obtain ⟨aoP, capP, rfl, hpl, -⟩ := hP2
      have HP := hid (hP.below ((Below.refl wr.heap.size wr).alloc (Nat.le_refl _) (stepObj ax te nm (.slice aoP ps.length capP))))
      have HFN : Hid (nm.size ≤ 1048576) := hid hF.1
      have HFP : Hid (∀ p ∈ ps, p.name.size ≤ 1048576 ∧ p.value.size ≤ 1048576) := hid hF.2
      have HSB : Hid (Q.rightSB ⟨ax, te, nm, ps⟩ = false → r = false) := hid (fun h => HNO.out (by rw [← hA, h]; rfl))
      have HSB2 : Hid (Q.rightSB ⟨ax, te, nm, ps⟩ = true → (l.drop (j + 1)).all (fun x => Q.rightSB x.1) = b) := hid (fun h => by rw [← hA, h]; rfl)
      have B1 := hid (HB.out.alloc HB.out.size (stepObj ax te nm (.slice aoP ps.length capP)))
      have nw : Hid ((wr.alloc (stepObj ax te nm (.slice aoP ps.length capP))).heap[wr.heap.size]? = some (stepObj ax te nm (.slice aoP ps.length capP))) := hid (heap_alloc_new wr _)
      have KD : Hid (∀ W', Below (wr.alloc (stepObj ax te nm (.slice aoP ps.length capP))).heap.size (wr.alloc (stepObj ax te nm (.slice aoP ps.length capP))) W' → Below w.heap.size w W' ∧ W'.cell? ⟨wr.heap.size, 0, none⟩ = some (.int .i64 ax) ∧ W'.cell? ⟨wr.heap.size, 1, none⟩ = some (.int .i64 te) ∧ W'.cell? ⟨wr.heap.size, 2, none⟩ = some (.string nm) ∧ W'.cell? ⟨wr.heap.size, 3, none⟩ = some (.slice aoP ps.length capP) ∧ PredsIn (.slice aoP ps.length capP) ps W') := hid (fun W' hb =>
        ⟨B1.out.trans (hb.mono B1.out.size), by rw [hb.cell (p := ⟨wr.heap.size, 0, none⟩) (by simp), cell_of_row _ wr.heap.size 0 _ _ _ nw.out]; rfl, by rw [hb.cell (p := ⟨wr.heap.size, 1, none⟩) (by simp), cell_of_row _ wr.heap.size 1 _ _ _ nw.out]; rfl, by rw [hb.cell (p := ⟨wr.heap.size, 2, none⟩) (by simp), cell_of_row _ wr.heap.size 2 _ _ _ nw.out]; rfl, by rw [hb.cell (p := ⟨wr.heap.size, 3, none⟩) (by simp), cell_of_row _ wr.heap.size 3 _ _ _ nw.out]; rfl, HP.out.below hb⟩)
      obtain ⟨-, d0, d1, d2, d3, -⟩ := KD.out _ (Below.refl _ _)
      clear k0 k1 k2 k3 hcc hF HPJ HA hA hP HP nw HC
      by_cases a1 : 1 ≤ ax
      case neg =>
        have a1' : ax < 1 := by omega
        have HF : Hid (r = false) := hid (HSB.out (by simp [Q.rightSB, a1]))
        clear HSB HSB2 KD HRB HNO
        go_wp2
        go_ret
        exact ⟨by rw [HF.out]; rfl, B1.out⟩
      case pos =>
      have a1' : ¬ ax < 1 := by omega
      by_cases a2 : ax ≤ 8
      case neg =>
        have a2' : 8 < ax := by omega
        have HF : Hid (r = false) := hid (HSB.out (by simp [Q.rightSB, a2]))
        clear HSB HSB2 KD HRB HNO
        go_wp2
        go_ret
        exact ⟨by rw [HF.out]; rfl, B1.out⟩
      case pos =>
      have a2' : ¬ 8 < ax := by omega
      by_cases a3 : 1 ≤ te
      case neg =>
        have a3' : te < 1 := by omega
        have HF : Hid (r = false) := hid (HSB.out (by simp [Q.rightSB, a3]))
        clear HSB HSB2 KD HRB HNO
        go_wp2
        go_ret
        exact ⟨by rw [HF.out]; rfl, B1.out⟩
      case pos =>
      have a3' : ¬ te < 1 := by omega
      by_cases a4 : te ≤ 4
      case neg =>
        have a4' : 4 < te := by omega
        have HF : Hid (r = false) := hid (HSB.out (by simp [Q.rightSB, a4]))
        clear HSB HSB2 KD HRB HNO
        go_wp2
        go_ret
        exact ⟨by rw [HF.out]; rfl, B1.out⟩
      case pos =>
      have a4' : ¬ 4 < te := by omega
      by_cases a5 : ps.length ≤ 5
      case neg =>
        have a5' : (5 : Int) < (ps.length : Int) := by omega
        have HF : Hid (r = false) := hid (HSB.out (by simp [Q.rightSB, a5]))
        clear HSB HSB2 KD HRB HNO
        go_wp2
        go_ret
        exact ⟨by rw [HF.out]; rfl, B1.out⟩
      case pos =>
      have a5' : ¬ (5 : Int) < (ps.length : Int) := by omega
      obtain ⟨pb, HPB⟩ : ∃ pb, Hid (ps.all Q.rightPB = pb) := ⟨_, hid rfl⟩
      by_cases t1 : te = 1
      · subst t1
        obtain ⟨z, hz⟩ : ∃ z, G.nameB nm.data.toList = z := ⟨_, rfl⟩
        have HZ := hid hz
        have HSZ : Hid (Q.rightSB ⟨ax, 1, nm, ps⟩ = (z && pb)) := hid (by simp [Q.rightSB, Q.nameTB, a1, a2, a5, L.nameP, hz, HPB.out])
        clear hz
        go_wp2_with fail
        refine Calls.mono (rname_any nm z _ HFN.out HZ) ?_
        rintro e w2 ⟨rfl, hb⟩
        obtain ⟨hw2, d0, d1, d2, d3, -⟩ := KD.out _ hb
        have HW2 := hid hw2
        have B12 : Hid (Below (wr.alloc (stepObj ax 1 nm (.slice aoP ps.length capP))).heap.size (wr.alloc (stepObj ax 1 nm (.slice aoP ps.length capP))) w2) := hid hb
        obtain ⟨W1, HW1⟩ : ∃ W1, Hid (W1 = wr.alloc (stepObj ax 1 nm (.slice aoP ps.length capP))) := ⟨_, hid rfl⟩
        rw [← HW1.out] at KD B12
        clear hw2 hb HZ
        cases z with
        | false =>
          have HF : Hid (r = false) := hid (HSB.out (by rw [HSZ.out]; rfl))
          clear HSB HSB2 KD HRB HNO HSZ
          go_wp2
          go_ret
          exact ⟨by rw [HF.out]; rfl, HW2.out⟩
        | true =>
          have HEND : Hid (pb = true → Q.rightSB ⟨ax, 1, nm, ps⟩ = true) := hid (fun h => by rw [HSZ.out, h]; rfl)
          have HBAD : Hid (pb = false → Q.rightSB ⟨ax, 1, nm, ps⟩ = false) := hid (fun h => by rw [HSZ.out, h]; rfl)
          clear HSZ
          go_wp2
          go_loopw [5] (fun v5 W => ∃ q : Nat, v5 = .int .i64 (q : Int) ∧ q ≤ ps.length ∧ Hid ((ps.drop q).all Q.rightPB = pb) ∧ Hid (Below W1.heap.size W1 W)) (fun v5 _ => ps.length - (intOf v5).toNat)
          case atStart => exact ⟨0, rfl, by omega, hid (by rw [List.drop_zero]; exact HPB.out), B12⟩
          case round =>
            obtain ⟨q, rfl, hq, HQ, HBQ⟩ := hrel
            obtain ⟨hbq, d0, d1, d2, d3, dP⟩ := KD.out _ HBQ.out
            have HWQ := hid hbq
            have HPQ := hid dP
            clear hbq dP
            by_cases hqlt : q < ps.length
            · have hqlt' : (q : Int) < (ps.length : Int) := by omega
              obtain ⟨ao2, cap2, hV, hl2, hcc⟩ := HPQ.out
              simp only [Value.slice.injEq] at hV
              obtain ⟨rfl, -, rfl⟩ := hV
              obtain ⟨g2, o2, rfl, hg2, hcc⟩ := hcc (by rintro rfl; simp at hqlt)
              obtain ⟨m0, m1, m2, m3⟩ := hcc q hqlt
              have hfp := HFP.out _ (List.getElem_mem hqlt)
              have hQ := HQ.out
              rw [all_drop _ ps q hqlt] at hQ
              have HPJ : Hid (ps[q] = ps[q]) := hid rfl
              generalize ps[q] = pp at *
              cases hpp : Q.rightPB pp with
              | false =>
                have HF : Hid (r = false) := hid (HSB.out (HBAD.out (by rw [← hQ, hpp]; rfl)))
                have HRP := hid hpp
                obtain ⟨pk, pn, pa, pv⟩ := pp
                simp only at m0 m1 m2 m3
                clear hcc hQ hpp HPJ KD HSB HSB2 HQ HRB HNO
                go_wp2_with fail
                refine Calls.mono (rrpred_any ⟨pk, pn, pa, pv⟩ _ hfp.1 hfp.2 false HRP) ?_
                rintro e w4 ⟨rfl, hb⟩
                have HB5 := hid (HWQ.out.trans (hb.mono HWQ.out.size))
                clear hb
                go_wp2
                go_ret
                exact ⟨by rw [HF.out]; rfl, HB5.out⟩
              | true =>
                have HQ2 : Hid ((ps.drop (q + 1)).all Q.rightPB = pb) := hid (by rw [← hQ, hpp]; rfl)
                have HRP := hid hpp
                obtain ⟨pk, pn, pa, pv⟩ := pp
                simp only at m0 m1 m2 m3
                clear hcc hQ hpp HPJ HQ
                go_wp2_with fail
                refine Calls.mono (rrpred_any ⟨pk, pn, pa, pv⟩ _ hfp.1 hfp.2 true HRP) ?_
                rintro e w4 ⟨rfl, hb⟩
                have HB5 := hid (HBQ.out.trans (hb.mono HBQ.out.size))
                clear hb m0 m1 m2 m3 d0 d1 d2 d3
                go_wp2
                go_roundw
                case rel => exact ⟨q + 1, by go_num, by omega, HQ2, HB5⟩
                case measure => (simp [intOf]; try omega)
            · have hqlt' : ¬ (q : Int) < (ps.length : Int) := by omega
              have HN := hid (HSB2.out (HEND.out (by rw [← HQ.out, List.drop_eq_nil_of_le (by omega)]; rfl)))
              clear HQ KD
              go_wp2
              go_roundw
              case rel => exact ⟨j + 1, by go_num, by omega, HN, HWQ⟩
              case measure => (simp [intOf]; try omega)
      · have b1 : (te == 1) = false := beq_eq_false_iff_ne.2 t1
        have b2 : (te != 1) = true := bne_iff_ne.2 t1
        rcases noneQ_of nm with ⟨-, hc1, hc2, hc3⟩ | ⟨-, hc1, hc2, hc3⟩
        · have HSZ : Hid (Q.rightSB ⟨ax, te, nm, ps⟩ = pb) := hid (by simp only [Q.rightSB, Q.nameTB, t1, a1, a2, a3, a4, a5, if_false, hc3, HPB.out]; simp)
          have HEND : Hid (pb = true → Q.rightSB ⟨ax, te, nm, ps⟩ = true) := hid (fun h => by rw [HSZ.out, h])
          have HBAD : Hid (pb = false → Q.rightSB ⟨ax, te, nm, ps⟩ = false) := hid (fun h => by rw [HSZ.out, h])
          clear HSZ hc3
          obtain ⟨W1, HW1⟩ : ∃ W1, Hid (W1 = wr.alloc (stepObj ax te nm (.slice aoP ps.length capP))) := ⟨_, hid rfl⟩
          have B12 : Hid (Below W1.heap.size W1 (wr.alloc (stepObj ax te nm (.slice aoP ps.length capP)))) := hid (by rw [← HW1.out]; exact Below.refl _ _)
          rw [← HW1.out] at KD
          go_wp2
          go_loopw [5] (fun v5 W => ∃ q : Nat, v5 = .int .i64 (q : Int) ∧ q ≤ ps.length ∧ Hid ((ps.drop q).all Q.rightPB = pb) ∧ Hid (Below W1.heap.size W1 W)) (fun v5 _ => ps.length - (intOf v5).toNat)
          case atStart => exact ⟨0, rfl, by omega, hid (by rw [List.drop_zero]; exact HPB.out), B12⟩
          case round =>
            obtain ⟨q, rfl, hq, HQ, HBQ⟩ := hrel
            obtain ⟨hbq, d0, d1, d2, d3, dP⟩ := KD.out _ HBQ.out
            have HWQ := hid hbq
            have HPQ := hid dP
            clear hbq dP
            by_cases hqlt : q < ps.length
            · have hqlt' : (q : Int) < (ps.length : Int) := by omega
              obtain ⟨ao2, cap2, hV, hl2, hcc⟩ := HPQ.out
              simp only [Value.slice.injEq] at hV
              obtain ⟨rfl, -, rfl⟩ := hV
              obtain ⟨g2, o2, rfl, hg2, hcc⟩ := hcc (by rintro rfl; simp at hqlt)
              obtain ⟨m0, m1, m2, m3⟩ := hcc q hqlt
              have hfp := HFP.out _ (List.getElem_mem hqlt)
              have hQ := HQ.out
              rw [all_drop _ ps q hqlt] at hQ
              have HPJ : Hid (ps[q] = ps[q]) := hid rfl
              generalize ps[q] = pp at *
              cases hpp : Q.rightPB pp with
              | false =>
                have HF : Hid (r = false) := hid (HSB.out (HBAD.out (by rw [← hQ, hpp]; rfl)))
                have HRP := hid hpp
                obtain ⟨pk, pn, pa, pv⟩ := pp
                simp only at m0 m1 m2 m3
                clear hcc hQ hpp HPJ KD HSB HSB2 HQ HRB HNO
                go_wp2_with fail
                refine Calls.mono (rrpred_any ⟨pk, pn, pa, pv⟩ _ hfp.1 hfp.2 false HRP) ?_
                rintro e w4 ⟨rfl, hb⟩
                have HB5 := hid (HWQ.out.trans (hb.mono HWQ.out.size))
                clear hb
                go_wp2
                go_ret
                exact ⟨by rw [HF.out]; rfl, HB5.out⟩
              | true =>
                have HQ2 : Hid ((ps.drop (q + 1)).all Q.rightPB = pb) := hid (by rw [← hQ, hpp]; rfl)
                have HRP := hid hpp
                obtain ⟨pk, pn, pa, pv⟩ := pp
                simp only at m0 m1 m2 m3
                clear hcc hQ hpp HPJ HQ
                go_wp2_with fail
                refine Calls.mono (rrpred_any ⟨pk, pn, pa, pv⟩ _ hfp.1 hfp.2 true HRP) ?_
                rintro e w4 ⟨rfl, hb⟩
                have HB5 := hid (HBQ.out.trans (hb.mono HBQ.out.size))
                clear hb m0 m1 m2 m3 d0 d1 d2 d3
                go_wp2
                go_roundw
                case rel => exact ⟨q + 1, by go_num, by omega, HQ2, HB5⟩
                case measure => (simp [intOf]; try omega)
            · have hqlt' : ¬ (q : Int) < (ps.length : Int) := by omega
              have HN := hid (HSB2.out (HEND.out (by rw [← HQ.out, List.drop_eq_nil_of_le (by omega)]; rfl)))
              clear HQ KD
              go_wp2
              go_roundw
              case rel => exact ⟨j + 1, by go_num, by omega, HN, HWQ⟩
              case measure => (simp [intOf]; try omega)
        · have HF : Hid (r = false) := hid (HSB.out (by simp only [Q.rightSB, Q.nameTB, t1, if_false, hc3]; simp))
          clear HSB HSB2 KD HRB HNO hc3
          go_wp2
          go_ret
          exact ⟨by rw [HF.out]; rfl, B1.out⟩
    · have hlt' : ¬ (j : Int) < (l.length : Int) := by omega
      have hb : b = true := by rw [← HA.out, List.drop_eq_nil_of_le (by omega)]; rfl
      have hr := HRB.out
      rw [hb, Bool.and_true] at hr
      clear HA HRB HNO hb
      by_cases e1 : 1 ≤ l.length
      · have e1' : (1 : Int) ≤ (l.length : Int) := by omega
        by_cases e2 : l.length ≤ 20
        · have e2' : (l.length : Int) ≤ 20 := by omega
          have HF : Hid (r = true) := hid (by rw [← hr]; simp [e1, e2])
          clear hr
          go_wp2
          go_ret
          exact ⟨by rw [HF.out]; rfl, HB.out⟩
        · have e2' : ¬ (l.length : Int) ≤ 20 := by omega
          have HF : Hid (r = false) := hid (by rw [← hr]; simp [e2])
          clear hr
          go_wp2
          go_ret
          exact ⟨by rw [HF.out]; rfl, HB.out⟩
      · have e1' : ¬ (1 : Int) ≤ (l.length : Int) := by omega
        have HF : Hid (r = false) := hid (by rw [← hr]; simp [e1])
        clear hr
        go_wp2
        go_ret
        exact ⟨by rw [HF.out]; rfl, HB.out⟩
end Go.Proofs.YtncgkglebpobpaaDoor
namespace Go.Proofs.YtncgkglebpobpaaDoor
open Go.RowKit Go.Shelf Go.Sort
theorem dig_small {n : Nat} (h : n < 10) : Lib.decDigits n = [UInt8.ofNat (48 + n)] := by
  rw [Lib.decDigits, dif_pos h]
theorem dec_len : ∀ (f n : Nat), n < 10 ^ f → 0 < f → (Lib.decDigits n).length ≤ f
  | 0, _, _, h => by omega
  | f + 1, n, h, _ => by
    rw [Lib.decDigits]
    by_cases h1 : n < 10
    · rw [dif_pos h1]; simp
    · rw [dif_neg h1]
      have h2 : n / 10 < 10 ^ f := by rw [Nat.pow_succ] at h; omega
      have := dec_len f (n / 10) h2 (by cases f with | zero => simp at h2; omega | succ f => omega)
      simp; omega
theorem conv_one (W : World) (g : Nat) (x : Int) (h : W.cell? ⟨g, 0, none⟩ = some (.int .u8 x)) :
    (convert 50 9 (.slice (some ⟨g, 0, none⟩) 1 1)).run Tryd.prog W = .ok (.string (strOfNums [x])) W :=
  run_convert_bytes_arg W 50 5 Tryd.underlying50 Tryd.underlying5 g 0 1 1 [x] rfl (by
    intro i hi
    obtain rfl : i = 0 := by omega
    exact h) 9 Tryd.underlying9
theorem str_one (k : Nat) (h : k < 10) : (strOfNums [48 + (k : Int)]).data.toList = [UInt8.ofNat (48 + k)] := by
  match k, h with
  | 0, _ => rfl
  | 1, _ => rfl
  | 2, _ => rfl
  | 3, _ => rfl
  | 4, _ => rfl
  | 5, _ => rfl
  | 6, _ => rfl
  | 7, _ => rfl
  | 8, _ => rfl
  | 9, _ => rfl
theorem str_ret {a b : ByteArray} (h : a.data.toList = b.data.toList) : Ending.returned (.string a) = .returned (.string b) := by rw [WideShapes.bytes_inj h]
set_option maxRecDepth 100000 in
set_option maxHeartbeats 4000000 in
theorem rdigits_any : ∀ (f n : Nat), n < 10 ^ (f + 1) → n ≤ 9999 → ∀ (s : ByteArray) (w : World), Hid (Lib.decDigits n = s.data.toList) →
    Calls Tryd.prog 41 #[.int .i64 (n : Int)] w fun e w' => e = .returned (.string s) ∧ Below w.heap.size w w' := by
  intro f
  induction f with
  | zero =>
    intro n h h9 s w HS
    have h1' : (n : Int) < 10 := by omega
    have hv := conv_one (w.alloc (.cells #[.int .u8 (48 + (n : Int))] 5)) w.heap.size (48 + (n : Int)) (by rw [cell_of_row _ w.heap.size 0 _ _ _ (heap_alloc_new w _)]; rfl)
    go_enter Tryd.func41, Tryd.ntmps41
    go_wp2
    go_ret
    exact ⟨str_ret (by rw [str_one n (by omega), ← HS.out, dig_small (by omega)]), (Below.refl _ _).alloc (Nat.le_refl _) _⟩
  | succ f ih =>
    intro n h h9 s w HS
    by_cases h1 : n < 10
    · have h1' : (n : Int) < 10 := by omega
      have hv := conv_one (w.alloc (.cells #[.int .u8 (48 + (n : Int))] 5)) w.heap.size (48 + (n : Int)) (by rw [cell_of_row _ w.heap.size 0 _ _ _ (heap_alloc_new w _)]; rfl)
      clear ih
      go_enter Tryd.func41, Tryd.ntmps41
      go_wp2
      go_ret
      exact ⟨str_ret (by rw [str_one n h1, ← HS.out, dig_small h1]), (Below.refl _ _).alloc (Nat.le_refl _) _⟩
    · have h1' : ¬ (n : Int) < 10 := by omega
      obtain ⟨s1, H1⟩ : ∃ s1 : ByteArray, Hid (Lib.decDigits (n / 10) = s1.data.toList) := ⟨⟨(Lib.decDigits (n / 10)).toArray⟩, hid rfl⟩
      have HI : Hid (∀ W, Calls Tryd.prog 41 #[.int .i64 ((n / 10 : Nat) : Int)] W fun e w' => e = .returned (.string s1) ∧ Below W.heap.size W w') := hid (fun W => ih (n / 10) (by rw [Nat.pow_succ] at h; omega) (by omega) s1 W H1)
      obtain ⟨k, hk⟩ : ∃ k, k = n % 10 := ⟨_, rfl⟩
      have hk10 : k < 10 := by omega
      have hq : (n : Int).tdiv 10 = ((n / 10 : Nat) : Int) := rfl
      have hm : (n : Int).tmod 10 = (k : Int) := by rw [hk]; rfl
      have hk10' : (k : Int) < 10 := by omega
      have HW : Hid (Lib.decDigits n = s1.data.toList ++ (strOfNums [48 + (k : Int)]).data.toList) := hid (by rw [str_one k hk10, ← H1.out, hk]; rw [Lib.decDigits, dif_neg h1])
      clear ih
      have EF : Hid (∀ args w, (callFunc 41 args).run Tryd.prog w = .ok (.enter 41 args) w) := hid (enters_of Tryd.func41 (by kernel_rfl) rfl)
      have hx : (48 : Int) + (n : Int) % 10 = 48 + (k : Int) := by omega
      have hw1 : IntKind.i64.wrap ((n : Int) / 10) = (n : Int) / 10 := by rw [IntKind.wrap_i64]; omega
      have hw2 : IntKind.i64.wrap (48 + (k : Int)) = 48 + (k : Int) := by rw [IntKind.wrap_i64]; omega
      have hw3 : IntKind.u8.wrap (48 + (k : Int)) = 48 + (k : Int) := by simp [IntKind.wrap, IntKind.bits, IntKind.signed]; omega
      have HI2 : Hid (∀ W, Calls Tryd.prog 41 #[.int .i64 ((n : Int) / 10)] W fun e w' => e = .returned (.string s1) ∧ Below W.heap.size W w') := hid HI.out
      have hc1 : (strOfNums [48 + (k : Int)]).size = 1 := by
        have := congrArg List.length (str_one k hk10)
        simpa using this
      have hs1 : s1.size ≤ 4 := by
        have := dec_len 4 (n / 10) (by omega) (by omega)
        rw [H1.out] at this
        simpa using this
      have HV : Hid (∀ (W : World) (g : Nat), W.cell? ⟨g, 0, none⟩ = some (.int .u8 (48 + (k : Int))) → (convert 50 9 (.slice (some ⟨g, 0, none⟩) 1 1)).run Tryd.prog W = .ok (.string (strOfNums [48 + (k : Int)])) W) := hid (fun W g h => conv_one W g _ h)
      generalize strOfNums [48 + (k : Int)] = c1 at *
      have z1 : (s1.size : Int) + (c1.size : Int) ≤ 9223372036854775807 := by omega
      have z2 : ¬ (9223372036854775807 < s1.size + c1.size) := by omega
      have HE : Hid ((s1 ++ c1 : ByteArray).data.toList = s.data.toList) := hid (by rw [← HS.out, HW.out]; simp [ByteArray.data_append])
      have hm2 : (n : Int) % 10 = (k : Int) := by omega
      clear HI hq hc1 hs1 hx hk
      go_enter Tryd.func41, Tryd.ntmps41
      go_wp2_with fail
      refine N.till_begin (z := 10) (S := fun _ => True) (by kernel_rfl) ?_
      refine N.till_free (i := 0) (v := ?_) rfl (by kernel_rfl) (by kernel_rfl) (by kernel_rfl) (by kernel_rfl) (fun _ _ _ h => h) (Or.inl ⟨by rfl, ?_⟩) trivial ?_
      rotate_left
      · intro w' _; go_simp; (try with_reducible rfl)
      refine N.till_free (i := 1) (v := ?_) rfl (by kernel_rfl) (by kernel_rfl) (by kernel_rfl) (by kernel_rfl) (fun _ _ _ h => h) (Or.inl ⟨by rfl, ?_⟩) trivial ?_
      rotate_left
      · intro w' _; go_simp; (try with_reducible rfl)
      refine N.till_free (i := 3) (v := ?_) rfl (by kernel_rfl) (by kernel_rfl) (by kernel_rfl) (by kernel_rfl) (fun _ _ _ h => h) (Or.inl ⟨by rfl, ?_⟩) trivial ?_
      rotate_left
      · intro w' _; go_simp; (try with_reducible rfl)
      refine N.till_free (i := 4) (v := ?_) rfl (by kernel_rfl) (by kernel_rfl) (by kernel_rfl) (by kernel_rfl) (fun _ _ _ h => h) (Or.inl ⟨by rfl, ?_⟩) trivial ?_
      rotate_left
      · intro w' _; go_simp; (try with_reducible rfl)
      refine N.till_free (i := 5) (v := ?_) rfl (by kernel_rfl) (by kernel_rfl) (by kernel_rfl) (by kernel_rfl) (fun _ _ _ h => h) (Or.inl ⟨by rfl, ?_⟩) trivial ?_
      rotate_left
      · intro w' _; go_simp; (try with_reducible rfl)
      refine N.till_free (i := 6) (v := ?_) rfl (by kernel_rfl) (by kernel_rfl) (by kernel_rfl) (by kernel_rfl) (fun _ _ _ h => h) (Or.inl ⟨by rfl, ?_⟩) trivial ?_
      rotate_left
      · intro w' _; go_simp; (try with_reducible rfl)
      refine N.till_two (i := 2) (j := 7) (by kernel_rfl) rfl rfl (fun K hK => ?_) (fun K hK => ?_)
      · refine N.step_calls1 rfl _ _ _ rfl EF.out (.int .i64 ((n : Int) / 10)) (by go_simp) (fun v w2 => v = .string s1 ∧ Below (w.drew).heap.size (w.drew) w2) ((HI2.out _).mono (by rintro e w2 ⟨rfl, q⟩; exact ⟨_, rfl, rfl, q⟩)) ?_
        rintro v w2 ⟨rfl, hb⟩
        have HB := hid hb
        refine hK.out _ _ ?_
        clear hK K
        refine N.till_one (i := 7) (by kernel_rfl) rfl fun K hK => ?_
        go_simp
        try simp only [hm, hm2, hw2, hw3]
        refine hK.out _ _ (fun _ _ => trivial) ?_
        clear hK K
        have hv := HV.out (w2.alloc (.cells #[.int .u8 (48 + (k : Int))] 5)) w2.heap.size (by rw [cell_of_row _ w2.heap.size 0 _ _ _ (heap_alloc_new w2 _)]; rfl)
        clear hb
        refine N.till_one (i := 8) (by kernel_rfl) rfl fun K hK => ?_
        go_simp
        refine hK.out _ _ (fun _ _ => trivial) ?_
        clear hK K
        refine N.till_one (i := 9) (by kernel_rfl) rfl fun K hK => ?_
        go_simp
        refine hK.out _ _ (fun _ _ => trivial) ?_
        clear hK K
        refine N.till_one (i := 10) (by kernel_rfl) rfl fun K hK => ?_
        go_simp
        refine hK.out _ _ (fun _ _ => trivial) ?_
        clear hK K
        refine N.till_done (by kernel_rfl) ?_ _
        go_wp2
        go_ret
        have h0 : Below w.heap.size w w2 := ⟨HB.out.os, HB.out.tape, HB.out.output, HB.out.size, HB.out.block⟩
        exact ⟨str_ret HE.out, h0.alloc h0.size _⟩
      · go_simp
        try simp only [hm, hm2, hw2, hw3]
        refine hK.out _ _ ?_
        clear hK K
        show N.till _ _ _ _ _ _ _ _ _ (w.drew.alloc (.cells #[.int .u8 (48 + (k : Int))] 5))
        refine N.till_two (i := 2) (j := 8) (by kernel_rfl) rfl rfl (fun K hK => ?_) (fun K hK => ?_)
        · refine N.step_calls1 rfl _ _ _ rfl EF.out (.int .i64 ((n : Int) / 10)) (by go_simp) (fun v w2 => v = .string s1 ∧ Below ((w.drew.alloc (.cells #[.int .u8 (48 + (k : Int))] 5))).heap.size ((w.drew.alloc (.cells #[.int .u8 (48 + (k : Int))] 5))) w2) ((HI2.out _).mono (by rintro e w2 ⟨rfl, q⟩; exact ⟨_, rfl, rfl, q⟩)) ?_
          rintro v w2 ⟨rfl, hb⟩
          have HB := hid hb
          refine hK.out _ _ ?_
          clear hK K
          have hv := HV.out w2 w.heap.size ((hb.cell (p := ⟨w.heap.size, 0, none⟩) (by simp)).trans (by rw [cell_of_row _ w.heap.size 0 _ _ _ (heap_alloc_new w.drew _)]; rfl))
          clear hb
          refine N.till_one (i := 8) (by kernel_rfl) rfl fun K hK => ?_
          go_simp
          refine hK.out _ _ (fun _ _ => trivial) ?_
          clear hK K
          refine N.till_one (i := 9) (by kernel_rfl) rfl fun K hK => ?_
          go_simp
          refine hK.out _ _ (fun _ _ => trivial) ?_
          clear hK K
          refine N.till_one (i := 10) (by kernel_rfl) rfl fun K hK => ?_
          go_simp
          refine hK.out _ _ (fun _ _ => trivial) ?_
          clear hK K
          refine N.till_done (by kernel_rfl) ?_ _
          go_wp2
          go_ret
          have h0 : Below w.heap.size w (w.drew.alloc (.cells #[.int .u8 (48 + (k : Int))] 5)) := ((⟨rfl, rfl, rfl, Nat.le_refl _, fun _ _ => rfl⟩ : Below w.heap.size w w.drew)).alloc (Nat.le_refl _) _
          exact ⟨str_ret HE.out, h0.trans (HB.out.mono h0.size)⟩
        · have hv : (convert 50 9 (.slice (some ⟨w.heap.size, 0, none⟩) 1 1)).run Tryd.prog (w.alloc (.cells #[.int .u8 (48 + (k : Int))] 5)).drew = .ok (.string c1) (w.alloc (.cells #[.int .u8 (48 + (k : Int))] 5)).drew := HV.out (w.drew.alloc (.cells #[.int .u8 (48 + (k : Int))] 5)) w.heap.size (by rw [cell_of_row _ w.heap.size 0 _ _ _ (heap_alloc_new w.drew _)]; rfl)
          go_simp
          refine hK.out _ _ ?_
          clear hK K
          refine N.till_one (i := 2) (by kernel_rfl) rfl fun K hK => ?_
          refine N.step_calls1 rfl _ _ _ rfl EF.out (.int .i64 ((n : Int) / 10)) (by go_simp) (fun v w2 => v = .string s1 ∧ Below ((w.drew.alloc (.cells #[.int .u8 (48 + (k : Int))] 5))).heap.size ((w.drew.alloc (.cells #[.int .u8 (48 + (k : Int))] 5))) w2) ((HI2.out _).mono (by rintro e w2 ⟨rfl, q⟩; exact ⟨_, rfl, rfl, q⟩)) ?_
          rintro v w2 ⟨rfl, hb⟩
          have HB := hid hb
          clear hb
          refine hK.out _ _ (fun _ _ => trivial) ?_
          clear hK K
          refine N.till_one (i := 9) (by kernel_rfl) rfl fun K hK => ?_
          go_simp
          refine hK.out _ _ (fun _ _ => trivial) ?_
          clear hK K
          refine N.till_one (i := 10) (by kernel_rfl) rfl fun K hK => ?_
          go_simp
          refine hK.out _ _ (fun _ _ => trivial) ?_
          clear hK K
          refine N.till_done (by kernel_rfl) ?_ _
          go_wp2
          go_ret
          have h0 : Below w.heap.size w (w.drew.alloc (.cells #[.int .u8 (48 + (k : Int))] 5)) := ((⟨rfl, rfl, rfl, Nat.le_refl _, fun _ _ => rfl⟩ : Below w.heap.size w w.drew)).alloc (Nat.le_refl _) _
          exact ⟨str_ret HE.out, h0.trans (HB.out.mono h0.size)⟩
end Go.Proofs.YtncgkglebpobpaaDoor
namespace Go.Proofs.YtncgkglebpobpaaDoor
open Go.RowKit Go.Shelf Go.Sort
theorem rdig_any (n : Nat) (h9 : n ≤ 9999) (s : ByteArray) (w : World) (HS : Hid (Lib.decDigits n = s.data.toList)) :
    Calls Tryd.prog 41 #[.int .i64 (n : Int)] w fun e w' => e = .returned (.string s) ∧ Below w.heap.size w w' :=
  rdigits_any 3 n (by omega) h9 s w HS
theorem rstr_ret {a b : ByteArray} (h : a.data.toList = b.data.toList) : Ending.returned (.string a) = .returned (.string b) := by rw [L.bytes_one h]
set_option maxRecDepth 100000 in
set_option maxHeartbeats 4000000 in
theorem rwritten_any (p : Q.Pred) (hp : Q.rightP p) (w : World) (hn : p.name.size ≤ 1048576) (hv : p.value.size ≤ 1048576) (s : ByteArray) (HS : Hid ([91] ++ (Q.predW p ++ [93]) = s.data.toList)) :
    Calls Tryd.prog 25 #[predV p] w fun e w' => e = .returned (.string s) ∧ Below w.heap.size w w' := by
  have hb0 : Hid (Below w.heap.size w (w.alloc (predObj p))) := hid ((Below.refl _ _).alloc (Nat.le_refl _) _)
  have nw : Hid ((w.alloc (predObj p)).heap[w.heap.size]? = some (predObj p)) := hid (heap_alloc_new w _)
  obtain ⟨kd, n, a, c⟩ := p
  simp only at hn hv
  have hs := HS.out
  unfold Q.predW at hs
  simp only at hs
  have q0 : (w.alloc (predObj ⟨kd, n, a, c⟩)).cell? ⟨w.heap.size, 0, none⟩ = some (.int .i64 kd) := by rw [cell_of_row _ w.heap.size 0 _ _ _ nw.out]; rfl
  have q1 : (w.alloc (predObj ⟨kd, n, a, c⟩)).cell? ⟨w.heap.size, 1, none⟩ = some (.int .i64 n) := by rw [cell_of_row _ w.heap.size 1 _ _ _ nw.out]; rfl
  have q2 : (w.alloc (predObj ⟨kd, n, a, c⟩)).cell? ⟨w.heap.size, 2, none⟩ = some (.string a) := by rw [cell_of_row _ w.heap.size 2 _ _ _ nw.out]; rfl
  have q3 : (w.alloc (predObj ⟨kd, n, a, c⟩)).cell? ⟨w.heap.size, 3, none⟩ = some (.string c) := by rw [cell_of_row _ w.heap.size 3 _ _ _ nw.out]; rfl
  have KC : Hid (∀ W', Below (w.alloc (predObj ⟨kd, n, a, c⟩)).heap.size (w.alloc (predObj ⟨kd, n, a, c⟩)) W' → Below w.heap.size w W' ∧ W'.cell? ⟨w.heap.size, 0, none⟩ = some (.int .i64 kd) ∧ W'.cell? ⟨w.heap.size, 1, none⟩ = some (.int .i64 n) ∧ W'.cell? ⟨w.heap.size, 2, none⟩ = some (.string a) ∧ W'.cell? ⟨w.heap.size, 3, none⟩ = some (.string c)) := hid (fun W' hb =>
    ⟨hb0.out.trans (hb.mono hb0.out.size), (hb.cell (p := ⟨w.heap.size, 0, none⟩) (by simp)).trans q0, (hb.cell (p := ⟨w.heap.size, 1, none⟩) (by simp)).trans q1, (hb.cell (p := ⟨w.heap.size, 2, none⟩) (by simp)).trans q2, (hb.cell (p := ⟨w.heap.size, 3, none⟩) (by simp)).trans q3⟩)
  unfold predV
  obtain ⟨ev, HEV⟩ : ∃ ev : ByteArray, Hid ((E.escL true c.data.toList).getD [] = ev.data.toList) := ⟨⟨((E.escL true c.data.toList).getD []).toArray⟩, hid rfl⟩
  obtain ⟨b, HBE⟩ : ∃ b, Hid ((E.escL true c.data.toList).isSome = b) := ⟨_, hid rfl⟩
  have HEQ : Hid (Q.evQ c = ev.data.toList) := hid HEV.out
  have HVE : Hid (0 ≤ G.countZ c.data.toList → ev.size ≤ 6291456) := hid (fun h => by
    have h2 := (ev_some (Int.not_lt.2 h)).2
    have : (Q.evQ c).length = ev.size := by rw [HEQ.out]; simp
    omega)
  clear nw HS
  go_enter Tryd.func25, Tryd.ntmps25
  go_wp2_with fail
  refine Calls.mono (rvalue_any c ev b _ hv (hid ⟨HEV.out, HBE.out⟩)) ?_
  clear q0 q1 q2 q3
  rintro e w2 ⟨rfl, hb2⟩
  obtain ⟨hb, c0, c1, c2, c3⟩ := KC.out _ hb2
  have HB := hid hb
  clear hb hb2 KC HEV HBE
  unfold Q.rightP at hp
  simp only at hp
  rcases hp with ⟨rfl, h1, h2, rfl, rfl⟩ | ⟨rfl, rfl, rfl, rfl⟩ | ⟨rfl, rfl, hnm, rfl⟩ | ⟨rfl, rfl, hnm, hc⟩ | ⟨rfl, rfl, rfl, hc⟩
  · obtain ⟨m, rfl⟩ := Int.eq_ofNat_of_zero_le (show 0 ≤ n by omega)
    obtain ⟨d, HD⟩ : ∃ d : ByteArray, Hid (Lib.decDigits m = d.data.toList) := ⟨⟨(Lib.decDigits m).toArray⟩, hid rfl⟩
    have hd : d.size ≤ 4 := by
      have := dec_len 4 m (by omega) (by omega)
      rw [HD.out] at this
      simpa using this
    have HR : Hid (((⟨#[91]⟩ ++ d) ++ ⟨#[93]⟩ : ByteArray).data.toList = s.data.toList) := hid (by
      rw [app3, ← hs, if_pos rfl, ← itoa_digits _ h1 h2, ← HD.out]
      unfold Lib.itoa
      rw [if_neg (by omega)]
      rfl)
    have z1 : (1 : Int) + (d.size : Int) ≤ 9223372036854775807 := by omega
    have z2 : ((⟨#[91]⟩ ++ d : ByteArray).size : Int) + 1 ≤ 9223372036854775807 := by rw [L.app_size]; show ((1 + d.size : Nat) : Int) + 1 ≤ _; omega
    clear hs
    go_wp2_with fail
    refine Calls.mono (rdig_any m (by omega) d w2 HD) ?_
    rintro e w3 ⟨rfl, hb3⟩
    have HB3 := hid (HB.out.trans (hb3.mono HB.out.size))
    clear hb3
    go_wp2
    go_ret
    exact ⟨rstr_ret HR.out, HB3.out⟩
  · simp only [show ¬ ((2 : Int) = 1) by decide, if_false, if_true] at hs
    have HR : Hid ((⟨#[91, 108, 97, 115, 116, 40, 41, 93]⟩ : ByteArray).data.toList = s.data.toList) := hid (by rw [← hs]; rfl)
    clear hs
    go_wp2
    go_ret
    exact ⟨rstr_ret HR.out, HB.out⟩
  · simp only [show ¬ ((3 : Int) = 1) by decide, show ¬ ((3 : Int) = 2) by decide, if_false, if_true] at hs
    have HR : Hid (((⟨#[91, 64]⟩ ++ a) ++ ⟨#[93]⟩ : ByteArray).data.toList = s.data.toList) := hid (by rw [app3, ← hs]; simp)
    clear hs
    go_wp2
    go_ret
    exact ⟨rstr_ret HR.out, HB.out⟩
  · simp only [show ¬ ((4 : Int) = 1) by decide, show ¬ ((4 : Int) = 2) by decide, show ¬ ((4 : Int) = 3) by decide, if_false, if_true] at hs
    have hev := HVE.out (Int.not_lt.1 hc)
    have HR : Hid ((((⟨#[91, 64]⟩ ++ a) ++ ⟨#[61, 34]⟩ ++ ev) ++ ⟨#[34, 93]⟩ : ByteArray).data.toList = s.data.toList) := hid (by rw [app3, L.app_list, L.app_list, ← hs, HEQ.out]; simp)
    clear hs
    go_wp2
    go_ret
    exact ⟨rstr_ret HR.out, HB.out⟩
  · simp only [show ¬ ((5 : Int) = 1) by decide, show ¬ ((5 : Int) = 2) by decide, show ¬ ((5 : Int) = 3) by decide, show ¬ ((5 : Int) = 4) by decide, if_false] at hs
    have hev := HVE.out (Int.not_lt.1 hc)
    have HR : Hid (((⟨#[91, 116, 101, 120, 116, 40, 41, 61, 34]⟩ ++ ev) ++ ⟨#[34, 93]⟩ : ByteArray).data.toList = s.data.toList) := hid (by rw [app3, ← hs, HEQ.out]; simp [Q.textW])
    clear hs
    go_wp2
    go_ret
    exact ⟨rstr_ret HR.out, HB.out⟩
end Go.Proofs.YtncgkglebpobpaaDoor
namespace Go.Proofs.YtncgkglebpobpaaDoor
open Go.RowKit Go.Shelf Go.Sort
def axC : Array Value := #[.string ⟨#[]⟩, .string ⟨#[99, 104, 105, 108, 100, 58, 58]⟩, .string ⟨#[100, 101, 115, 99, 101, 110, 100, 97, 110, 116, 58, 58]⟩, .string ⟨#[100, 101, 115, 99, 101, 110, 100, 97, 110, 116, 45, 111, 114, 45, 115, 101, 108, 102, 58, 58]⟩, .string ⟨#[112, 97, 114, 101, 110, 116, 58, 58]⟩, .string ⟨#[97, 110, 99, 101, 115, 116, 111, 114, 58, 58]⟩, .string ⟨#[102, 111, 108, 108, 111, 119, 105, 110, 103, 45, 115, 105, 98, 108, 105, 110, 103, 58, 58]⟩, .string ⟨#[112, 114, 101, 99, 101, 100, 105, 110, 103, 45, 115, 105, 98, 108, 105, 110, 103, 58, 58]⟩, .string ⟨#[115, 101, 108, 102, 58, 58]⟩]
def teC : Array Value := #[.string ⟨#[]⟩, .string ⟨#[]⟩, .string ⟨#[42]⟩, .string ⟨#[116, 101, 120, 116, 40, 41]⟩, .string ⟨#[110, 111, 100, 101, 40, 41]⟩]
theorem axC_at : ∀ a : Nat, a < 9 → axC[a]? = some (.string (S.bA (Q.axisW a)))
  | 0, _ => by kernel_rfl
  | 1, _ => by kernel_rfl
  | 2, _ => by kernel_rfl
  | 3, _ => by kernel_rfl
  | 4, _ => by kernel_rfl
  | 5, _ => by kernel_rfl
  | 6, _ => by kernel_rfl
  | 7, _ => by kernel_rfl
  | 8, _ => by kernel_rfl
theorem teC_at : ∀ a : Nat, a < 5 → teC[a]? = some (.string (S.bA (Q.testW a)))
  | 0, _ => by kernel_rfl
  | 1, _ => by kernel_rfl
  | 2, _ => by kernel_rfl
  | 3, _ => by kernel_rfl
  | 4, _ => by kernel_rfl
set_option maxRecDepth 100000 in
set_option maxHeartbeats 8000000 in
theorem rprint_any (V : Value) (l : List SV) (w : World) (I : Hid (StepsIn V l w)) (F : Hid (∀ x ∈ l, FitS 1048576 x.1)) (r : Bool) (HR : Hid (Q.rightLB (l.map (·.1)) = r)) (s : ByteArray) (HS : Hid (r = true → Q.stepsW (l.map (·.1)) = s.data.toList)) :
    Calls Tryd.prog 15 #[V] w fun e w' => e = .returned (.tuple #[.string (if r = true then s else L.noB), .bool r]) ∧ Below w.heap.size w w' := by
  obtain ⟨ao, cap, rfl, hlen, hc⟩ := I.out.1
  have HC := hid hc
  clear hc
  cases r with
  | false =>
    go_enter Tryd.func15, Tryd.ntmps15
    go_wp2_with fail
    refine Calls.mono (rright_any _ l w I F false HR) ?_
    rintro e w1 ⟨rfl, hb⟩
    have HB1 := hid hb
    clear hb
    go_wp2
    go_ret2
    exact ⟨rfl, HB1.out⟩
  | true =>
    have hrs := (Q.rightL_B _).1 HR.out
    have HRS : Hid (∀ x ∈ l, Q.rightS x.1) := hid (fun x hx => hrs.2.2 x.1 (List.mem_map_of_mem hx))
    have hl20 : l.length ≤ 20 := by have := hrs.2.1; simpa using this
    have HS2 : Hid ((⟨#[]⟩ : ByteArray).data.toList ++ Q.stepsW ((l.drop 0).map (·.1)) = s.data.toList) := hid (by simpa using HS.out rfl)
    clear hrs HS
    go_enter Tryd.func15, Tryd.ntmps15
    go_wp2_with fail
    refine Calls.mono (rright_any _ l w I F true HR) ?_
    rintro e w1 ⟨rfl, hb⟩
    have HI1 := hid (I.out.below hb)
    have HB1 := hid hb
    clear hb HR
    have HC1 : Hid (l ≠ [] → ∃ g o, ao = some ⟨g, o, none⟩ ∧ g < w1.heap.size ∧ ∀ j (h : j < l.length), w1.cell? ⟨g, o + j * 4, none⟩ = some (.int .i64 l[j].1.axis) ∧ w1.cell? ⟨g, o + j * 4 + 1, none⟩ = some (.int .i64 l[j].1.test) ∧ w1.cell? ⟨g, o + j * 4 + 2, none⟩ = some (.string l[j].1.name) ∧ w1.cell? ⟨g, o + j * 4 + 3, none⟩ = some l[j].2) := hid (by
      obtain ⟨ao', cap', h1, _, h3⟩ := HI1.out.1
      simp only [Value.slice.injEq, true_and] at h1
      rw [h1.1]
      exact h3)
    clear HC
    have hA := heap_alloc_new w1 (.cells axC 9 (0, 0))
    have hT := heap_alloc_new (w1.alloc (.cells axC 9 (0, 0))) (.cells teC 9 (0, 0))
    have hs1 : (w1.alloc (.cells axC 9 (0, 0))).heap.size = w1.heap.size + 1 := by simp
    rw [hs1] at hT
    have B2 : Hid (Below w1.heap.size w1 ((w1.alloc (.cells axC 9 (0, 0))).alloc (.cells teC 9 (0, 0)))) := hid (((Below.refl _ _).alloc (Nat.le_refl _) _).alloc (by simp) _)
    have KT : Hid (∀ W', Below (w1.heap.size + 2) ((w1.alloc (.cells axC 9 (0, 0))).alloc (.cells teC 9 (0, 0))) W' → Below w1.heap.size w1 W' ∧ (∀ a : Nat, a < 9 → W'.cell? ⟨w1.heap.size, a, none⟩ = some (.string (S.bA (Q.axisW a)))) ∧ (∀ a : Nat, a < 5 → W'.cell? ⟨w1.heap.size + 1, a, none⟩ = some (.string (S.bA (Q.testW a))))) := hid (fun W' hb => by
      refine ⟨B2.out.trans (hb.mono (by omega)), fun a ha => ?_, fun a ha => ?_⟩
      · rw [hb.cell (p := ⟨w1.heap.size, a, none⟩) (by show w1.heap.size < w1.heap.size + 2; omega), World.cell?_alloc_past _ _ _ (by simp), cell_of_row _ w1.heap.size a _ _ _ hA]
        exact axC_at a ha
      · rw [hb.cell (p := ⟨w1.heap.size + 1, a, none⟩) (by show w1.heap.size + 1 < w1.heap.size + 2; omega), cell_of_row _ (w1.heap.size + 1) a _ _ _ hT]
        exact teC_at a ha)
    have hsz : ((w1.alloc (.cells axC 9 (0, 0))).alloc (.cells teC 9 (0, 0))).heap.size = w1.heap.size + 2 := by simp
    have B3 : Hid (Below (w1.heap.size + 2) ((w1.alloc (.cells axC 9 (0, 0))).alloc (.cells teC 9 (0, 0))) ((w1.alloc (.cells axC 9 (0, 0))).alloc (.cells teC 9 (0, 0)))) := hid (Below.refl _ _)
    obtain ⟨W2, HW2⟩ : ∃ W2, Hid (W2 = ((w1.alloc (.cells axC 9 (0, 0))).alloc (.cells teC 9 (0, 0)))) := ⟨_, hid rfl⟩
    have B4 : Hid (Below W2.heap.size W2 ((w1.alloc (.cells axC 9 (0, 0))).alloc (.cells teC 9 (0, 0)))) := hid (by rw [← HW2.out]; exact Below.refl _ _)
    rw [← HW2.out, ← hsz, ← HW2.out] at KT
    clear hA hT hs1 B3 hsz B2
    go_wp2
    go_loopw [6, 7] (fun v6 v7 W => ∃ (j : Nat) (acc : ByteArray), v6 = .string acc ∧ v7 = .int .i64 (j : Int) ∧ j ≤ l.length ∧ acc.size ≤ j * 40000000 ∧ Hid (acc.data.toList ++ Q.stepsW ((l.drop j).map (·.1)) = s.data.toList) ∧ Hid (Below W2.heap.size W2 W)) (fun _ v7 _ => l.length - (intOf v7).toNat)
    case atStart => exact ⟨0, ⟨#[]⟩, rfl, rfl, by omega, Nat.zero_le _, HS2, B4⟩
    case round =>
      clear HS2 B4
      obtain ⟨j, acc, rfl, rfl, hj, hacc, HSJ, HB⟩ := hrel
      obtain ⟨hbw, tA, tT⟩ := KT.out _ HB.out
      have HBW := hid hbw
      clear hbw
      by_cases hlt : j < l.length
      · have hlt' : (j : Int) < (l.length : Int) := by omega
        obtain ⟨g, o, rfl, hg, hcc⟩ := HC1.out (by rintro rfl; simp at hlt)
        obtain ⟨k0, k1, k2, k3⟩ := hcc j hlt
        have hF := F.out _ (List.getElem_mem hlt)
        have hP := (HI1.out.2 _ (List.getElem_mem hlt))
        have hR := HRS.out _ (List.getElem_mem hlt)
        have hsj := HSJ.out
        rw [List.drop_eq_getElem_cons hlt, List.map_cons] at hsj
        unfold Q.stepsW at hsj
        have HPJ : Hid (l[j] = l[j]) := hid rfl
        generalize l[j] = p at *
        obtain ⟨⟨ax, te, nm, ps⟩, v⟩ := p
        simp only at k0 k1 k2 k3 hF hP hR hsj
        have HF := hid hF
        have HRR := hid hR
        obtain ⟨⟨ha1, ha2⟩, ht14, hps5, _⟩ := hR
        obtain ⟨aoP, capP, rfl, hpl, hpc⟩ := hP
        have HPC := hid hpc
        have ht1 : 1 ≤ te ∧ te ≤ 4 := by rcases ht14 with ⟨h, _⟩ | ⟨h, _⟩ <;> simp only at h <;> omega
        replace ha1 : 1 ≤ ax := ha1
        replace ha2 : ax ≤ 8 := ha2
        replace hps5 : ps.length ≤ 5 := hps5
        have hax := axisW_len ax ha1 ha2
        have hte := testW_len te
        obtain ⟨ax, rfl⟩ : ∃ q : Nat, ax = (q : Int) := ⟨ax.toNat, by omega⟩
        obtain ⟨te, rfl⟩ : ∃ q : Nat, te = (q : Int) := ⟨te.toNat, by omega⟩
        have KW : Hid (∀ W', Below W2.heap.size W2 W' → W'.cell? ⟨g, o + j * 4, none⟩ = some (.int .i64 (ax : Int)) ∧ W'.cell? ⟨g, o + j * 4 + 1, none⟩ = some (.int .i64 (te : Int)) ∧ W'.cell? ⟨g, o + j * 4 + 2, none⟩ = some (.string nm) ∧ W'.cell? ⟨g, o + j * 4 + 3, none⟩ = some (.slice aoP ps.length capP)) := hid (fun W' hb =>
          have h := (KT.out W' hb).1
          ⟨(h.cell (p := ⟨g, o + j * 4, none⟩) hg).trans k0, (h.cell (p := ⟨g, o + j * 4 + 1, none⟩) hg).trans k1, (h.cell (p := ⟨g, o + j * 4 + 2, none⟩) hg).trans k2, (h.cell (p := ⟨g, o + j * 4 + 3, none⟩) hg).trans k3⟩)
        obtain ⟨c0, c1, c2, c3⟩ := KW.out _ HB.out
        have a0 := tA ax (by omega)
        have t0 := tT te (by omega)
        have sA : (S.bA (Q.axisW ax)).size ≤ 20 := by rw [S.bA_size]; exact hax
        have sT : (S.bA (Q.testW te)).size ≤ 6 := by rw [S.bA_size]; exact hte
        have sN : nm.size ≤ 1048576 := HF.out.1
        have HJ1 : Hid ((acc ++ ⟨#[47]⟩ ++ S.bA (Q.axisW ax) ++ S.bA (Q.testW te) ++ nm : ByteArray).data.toList ++ (Q.predsW (ps.drop 0) ++ Q.stepsW ((l.drop (j + 1)).map (·.1))) = s.data.toList) := hid (by
          rw [← hsj, L.app_list, L.app_list, L.app_list, L.app_list]
          unfold Q.stepW
          simp only [bA_self', List.drop_zero, List.append_assoc])
        clear hsj HSJ hax hte k0 k1 k2 k3 hcc hF HPJ ht14 hpc tA tT
        generalize S.bA (Q.axisW ax) = aw at *
        generalize S.bA (Q.testW te) = tw at *
        have slash1 : (⟨#[47]⟩ : ByteArray).size = 1 := rfl
        have hacc8 : acc.size ≤ 800000000 := by omega
        have z0 : ¬ (9223372036854775807 < acc.size + 1) := by omega
        have z1 : ¬ (9223372036854775807 < acc.size + 1 + aw.size) := by omega
        have z2 : ¬ (9223372036854775807 < acc.size + 1 + aw.size + tw.size) := by omega
        have z3 : ¬ (9223372036854775807 < acc.size + 1 + aw.size + tw.size + nm.size) := by omega
        have ax0' : (0 : Int) ≤ (ax : Int) := by omega
        have ax8' : (ax : Int) < 9 := by omega
        have te0' : (0 : Int) ≤ (te : Int) := by omega
        have te4' : (te : Int) < 5 := by omega
        have hacc1 : (acc ++ ⟨#[47]⟩ ++ aw ++ tw ++ nm : ByteArray).size ≤ j * 40000000 + 1048603 := by rw [ByteArray.size_append, ByteArray.size_append, ByteArray.size_append, ByteArray.size_append, slash1]; omega
        go_wp2_with fail
        go_quiet (fail)
        have HB2 := hid (below_drewQ HB.out nq)
        generalize wr.drewN nq = W3 at *
        generalize (acc ++ ⟨#[47]⟩ ++ aw ++ tw ++ nm : ByteArray) = acc1 at *
        clear z0 z1 z2 z3 ax0' ax8' te0' te4' a0 t0 sA sT sN c0 c1 c2 c3 hacc8 slash1 HB
        go_wp2
        go_loopw [6, 8] (fun v6 v8 W => ∃ (k : Nat) (acc2 : ByteArray), v6 = .string acc2 ∧ v8 = .int .i64 (k : Int) ∧ k ≤ ps.length ∧ acc2.size ≤ j * 40000000 + 1048603 + k * 7500010 ∧ Hid (acc2.data.toList ++ (Q.predsW (ps.drop k) ++ Q.stepsW ((l.drop (j + 1)).map (·.1))) = s.data.toList) ∧ Hid (Below W2.heap.size W2 W)) (fun _ v8 _ => ps.length - (intOf v8).toNat)
        case atStart => exact ⟨0, acc1, rfl, rfl, by omega, by omega, HJ1, HB2⟩
        case round =>
          clear HJ1 HB2 hacc1
          obtain ⟨k, acc2, rfl, rfl, hk, hacc2, HJK, HBK⟩ := hrel
          obtain ⟨c0, c1, c2, c3⟩ := KW.out _ HBK.out
          have HBV := hid (KT.out _ HBK.out).1
          by_cases hkl : k < ps.length
          · have hkl' : (k : Int) < (ps.length : Int) := by omega
            obtain ⟨g2, o2, rfl, hg2, hcc⟩ := HPC.out (by rintro rfl; simp at hkl)
            obtain ⟨k0, k1, k2, k3⟩ := hcc k hkl
            have m0 := (HBV.out.cell (p := ⟨g2, o2 + k * 4, none⟩) hg2).trans k0
            have m1 := (HBV.out.cell (p := ⟨g2, o2 + k * 4 + 1, none⟩) hg2).trans k1
            have m2 := (HBV.out.cell (p := ⟨g2, o2 + k * 4 + 2, none⟩) hg2).trans k2
            have m3 := (HBV.out.cell (p := ⟨g2, o2 + k * 4 + 3, none⟩) hg2).trans k3
            have hFp := HF.out.2 _ (List.getElem_mem hkl)
            have hRp := HRR.out.2.2.2 _ (List.getElem_mem hkl)
            have hjk := HJK.out
            rw [List.drop_eq_getElem_cons hkl] at hjk
            unfold Q.predsW at hjk
            have HPJ : Hid (ps[k] = ps[k]) := hid rfl
            generalize ps[k] = p at *
            obtain ⟨kd, nn, pn, pv⟩ := p
            simp only at m0 m1 m2 m3 hFp
            have hlen2 := predW_len ⟨kd, nn, pn, pv⟩ hRp hFp.1 hFp.2
            obtain ⟨sp, HSP⟩ : ∃ sp : ByteArray, Hid ([91] ++ (Q.predW ⟨kd, nn, pn, pv⟩ ++ [93]) = sp.data.toList) := ⟨⟨([91] ++ (Q.predW ⟨kd, nn, pn, pv⟩ ++ [93])).toArray⟩, hid rfl⟩
            have hsp : sp.size ≤ 7500002 := by
              have := congrArg List.length HSP.out
              simp only [List.length_append, List.length_cons, List.length_nil, len_size] at this
              omega
            have HJ3 : Hid ((acc2 ++ sp : ByteArray).data.toList ++ (Q.predsW (ps.drop (k + 1)) ++ Q.stepsW ((l.drop (j + 1)).map (·.1))) = s.data.toList) := hid (by
              rw [← hjk, L.app_list, ← HSP.out]
              simp)
            have hz : (acc2.size : Int) + (sp.size : Int) ≤ 9223372036854775807 := by omega
            have hz2 : (acc2 ++ sp : ByteArray).size ≤ j * 40000000 + 1048603 + (k + 1) * 7500010 := by rw [ByteArray.size_append]; omega
            have HFp := hid hFp
            have HRp := hid hRp
            clear k0 k1 k2 k3 hcc hFp hRp HPJ hjk HJK hlen2
            go_wp2_with fail
            refine Calls.mono (rwritten_any ⟨kd, nn, pn, pv⟩ HRp.out _ HFp.out.1 HFp.out.2 sp HSP) ?_
            rintro e w5 ⟨rfl, hb⟩
            have HB5 := hid (HBK.out.trans (hb.mono HBK.out.size))
            clear hb m0 m1 m2 m3 c0 c1 c2 c3
            go_wp2
            go_roundw
            case rel => exact ⟨k + 1, _, rfl, by go_num, by omega, hz2, HJ3, HB5⟩
            case measure => (simp [intOf]; try omega)
          · have hkl' : ¬ (k : Int) < (ps.length : Int) := by omega
            have hkk : k = ps.length := by omega
            have HJ3 : Hid (acc2.data.toList ++ Q.stepsW ((l.drop (j + 1)).map (·.1)) = s.data.toList) := hid (by
              rw [← HJK.out, List.drop_eq_nil_of_le (by omega : ps.length ≤ k)]
              simp [Q.predsW])
            have hl7 : acc2.size ≤ (j + 1) * 40000000 := by omega
            clear HJK
            go_wp2
            go_roundw
            case rel => exact ⟨j + 1, acc2, rfl, by go_num, by omega, hl7, HJ3, HBK⟩
            case measure => (simp [intOf]; try omega)
      · have hlt' : ¬ (j : Int) < (l.length : Int) := by omega
        have HE : Hid (acc.data.toList = s.data.toList) := hid (by rw [← HSJ.out, List.drop_eq_nil_of_le (by omega)]; simp [Q.stepsW])
        obtain rfl : acc = s := WideShapes.bytes_inj HE.out
        clear HSJ HE
        go_wp2
        go_ret2
        exact ⟨rfl, HB1.out.trans (HBW.out.mono HB1.out.size)⟩
end Go.Proofs.YtncgkglebpobpaaDoor
namespace Go.Proofs.YtncgkglebpobpaaDoor
open Go.ChangeShapes Go.WideShapes Go.ChangeAt Go.RowKit Go.Shelf
namespace PathqRight
set_option maxRecDepth 100000 in
set_option maxHeartbeats 4000000 in
theorem walk (V : Value) (l : List SV) {w : World} (HI : Hid (StepsIn V l w)) (F1 : Hid (∀ x ∈ l, FitS 1048576 x.1)) (ht : TabQ w) :
    Calls Tryd.prog 4 #[V] w fun e w' => e = .returned (.bool true) ∧ Below w.heap.size w w' := by
  have HT := hid ht
  have F2 : Hid (∀ x ∈ l, FitS maxLen x.1) := hid (fun x hx => (F1.out x hx).mono (by unfold maxLen; decide))
  obtain ⟨ao, cap, rfl, _⟩ := HI.out.1
  clear ht
  obtain ⟨r, HRB⟩ : ∃ r, Hid (Q.rightLB (l.map (·.1)) = r) := ⟨_, hid rfl⟩
  obtain ⟨t, HTX⟩ : ∃ t : ByteArray, Hid (Q.stepsW (l.map (·.1)) = t.data.toList) := ⟨⟨(Q.stepsW (l.map (·.1))).toArray⟩, hid rfl⟩
  go_enter Tryd.func4, Tryd.ntmps4
  by_cases h100 : 100 < l.length
  · have h100' : (100 : Int) < (l.length : Int) := by omega
    go_wp2_with fail
    refine (aliveQ_any w HT.out).mono ?_
    rintro e w4 ⟨rfl, hb4⟩
    have HB4 := hid hb4
    clear hb4
    go_wp2
    go_ret
    exact ⟨rfl, HB4.out⟩
  · have h100' : ¬ (100 : Int) < (l.length : Int) := by omega
    cases r with
    | false =>
      have hnoB : L.noB.toList = [] := by rw [ByteArray.toList_eq]; rfl
      go_wp2_with fail
      refine Calls.mono (print_any _ l w HT.out HI F1 false HRB t (hid fun _ => HTX.out)) ?_
      rintro e w2 ⟨rfl, hb2⟩
      have HT2 := hid (HT.out.below hb2)
      have HI2 := hid (HI.out.below hb2)
      have HB2 := hid hb2
      clear hb2
      go_wp2_with fail
      refine Calls.mono (rprint_any _ l w2 HI2 F1 false HRB t (hid fun _ => HTX.out)) ?_
      rintro e w3 ⟨rfl, hb3⟩
      have HT3 := hid (HT2.out.below hb3)
      have HI3 := hid (HI2.out.below hb3)
      have HB3 := hid (HB2.out.trans (hb3.mono HB2.out.size))
      clear hb3
      go_wp2_with fail
      refine (aliveQ_any w3 HT3.out).mono ?_
      rintro e w4 ⟨rfl, hb4⟩
      have HT4 := hid (HT3.out.below hb4)
      have HI4 := hid (HI3.out.below hb4)
      have HB4 := hid (HB3.out.trans (hb4.mono HB3.out.size))
      clear hb4
      go_wp2_with fail
      refine Calls.mono (right_any _ l w4 HT4.out.st HI4 F2 false HRB) ?_
      rintro e w5 ⟨rfl, hb5⟩
      have HI5 := hid (HI4.out.below hb5)
      have HB5 := hid (HB4.out.trans (hb5.mono HB4.out.size))
      clear hb5
      go_wp2_with fail
      refine Calls.mono (rright_any _ l w5 HI5 F1 false HRB) ?_
      rintro e w6 ⟨rfl, hb6⟩
      have HB6 := hid (HB5.out.trans (hb6.mono HB5.out.size))
      clear hb6
      go_wp2
      go_ret
      exact ⟨rfl, HB6.out⟩
    | true =>
      go_wp2_with fail
      refine Calls.mono (print_any _ l w HT.out HI F1 true HRB t (hid fun _ => HTX.out)) ?_
      rintro e w2 ⟨rfl, hb2⟩
      have HT2 := hid (HT.out.below hb2)
      have HI2 := hid (HI.out.below hb2)
      have HB2 := hid hb2
      clear hb2
      go_wp2_with fail
      refine Calls.mono (rprint_any _ l w2 HI2 F1 true HRB t (hid fun _ => HTX.out)) ?_
      rintro e w3 ⟨rfl, hb3⟩
      have HT3 := hid (HT2.out.below hb3)
      have HI3 := hid (HI2.out.below hb3)
      have HB3 := hid (HB2.out.trans (hb3.mono HB2.out.size))
      clear hb3
      go_wp2_with fail
      refine (aliveQ_any w3 HT3.out).mono ?_
      rintro e w4 ⟨rfl, hb4⟩
      have HT4 := hid (HT3.out.below hb4)
      have HI4 := hid (HI3.out.below hb4)
      have HB4 := hid (HB3.out.trans (hb4.mono HB3.out.size))
      clear hb4
      go_wp2_with fail
      refine Calls.mono (right_any _ l w4 HT4.out.st HI4 F2 true HRB) ?_
      rintro e w5 ⟨rfl, hb5⟩
      have HI5 := hid (HI4.out.below hb5)
      have HB5 := hid (HB4.out.trans (hb5.mono HB4.out.size))
      clear hb5
      go_wp2_with fail
      refine Calls.mono (rright_any _ l w5 HI5 F1 true HRB) ?_
      rintro e w6 ⟨rfl, hb6⟩
      have HB6 := hid (HB5.out.trans (hb6.mono HB5.out.size))
      clear hb6
      go_wp2
      go_ret
      exact ⟨rfl, HB6.out⟩

set_option maxRecDepth 100000 in
theorem contract (H : Type) (enc : TypeId × Value → H) (W : World) (base : Nat) (args : Array Value) (ds gs : List (DataW H)) (before : List MemPlace)
    (hval : ∀ (j : Nat) t v, Tryd.f4.params[j]? = some t → args[j]? = some v → Value.okWide Tryd.prog W .any base t v)
    (hW : DataW.Whole enc Tryd.prog Tryd.f4.params.toList Rows.pathqRightSpec.vars false W args.toList ds gs before) (hL : laidMetH Tryd.prog laidT W)
    (hk : Rows.uptoSmall H (ds ++ gs) = true) :
    Calls Tryd.prog 4 args W fun e W' => ∃ v, e = .returned v ∧ Rows.pathqRightSpec.post enc Tryd.prog Tryd.f4 false true false false W args v W' := by
  have hW' := hW
  obtain ⟨p, q, hA0, hV, rfl, hfz, hnd⟩ := hW
  have hA : DataW.TrodAll enc Tryd.prog W 0 (fun _ => true) true Tryd.f4.params.toList args.toList ds p := hA0
  rw [Tryd.params4] at hA hval
  obtain ⟨v0, vs0, d0, ds0, p0, q0, hargs, rfl, rfl, h0, r0⟩ := trodAll_cons hA
  obtain ⟨rfl, rfl, rfl⟩ := trodAll_nil r0
  obtain rfl : args = #[v0] := by cases args; simp_all
  obtain ⟨rfl, rfl⟩ := trodVars_none hV
  obtain ⟨l0, i0, f0⟩ := open_stepsU (hval 0 22 v0 rfl rfl) h0
  have hk1 : Rows.uptoBulkAll _ ≤ 1048576 := of_decide_eq_true hk
  simp only [List.append_nil, Rows.uptoBulkAll] at hk1
  replace f0 : ∀ x ∈ l0, FitS 1048576 x.1 := fun x hx => (f0 x hx).mono (by omega)
  have hT := tab_of hL
  clear hA0 hL hk hk1
  try simp only [List.append_nil] at hW'
  refine (walk v0 l0 (hid i0) (hid f0) hT).mono fun e W' ⟨he, hb⟩ => ?_
  subst he
  exact ⟨_, rfl, _, _, _, _, _, _, hW', trodAll_mk1 (shut_bool Tryd.underlying4 _), (trodAll_cons_mk (again_items (by kernel_rfl) (of_decide_eq_true (by kernel_rfl)) h0 (fun x hx => trod_lt h0 x hx) hb) trodAll_mk0), rfl, hb.frame _, fun h => by cases h⟩

theorem reads (os : Os) {H : Type} (enc : TypeId × Value → H) : ∃ places, DataW.whole enc Tryd.prog ((World.doorLaid Tryd.prog 400 os).forCall (fun _ _ => 0) ⟨#[], #[.slice none 0 0], []⟩).memory Tryd.f4.params.toList Rows.pathqRightSpec.vars false #[Value.slice none 0 0].toList 8 = some ([.nil], [], places) :=
  ⟨[], by kernel_rfl⟩
theorem laid_met (os : Os) (args : Array Value) : laidMet Tryd.prog Rows.pathqRightUptoRow.laid ((World.doorLaid Tryd.prog 400 os).forCall (fun _ _ => 0) ⟨#[], args, []⟩).memory :=
  laidMet_of_run' 8 (by kernel_rfl) (by kernel_rfl)

set_option maxRecDepth 100000 in
theorem lifted (os : Os) (started : os.Started) (H : Type) (enc : TypeId × Value → H) (F : Stop.Interp) :
    ReturnsInHanded {} Tryd.checked os 4 .any ((Rows.OpenSpec.upto Rows.pathqRightSpec).preRow enc Tryd.prog Tryd.f4 Rows.pathqRightUptoRow.domain false Rows.pathqRightUptoRow.laid) (((Rows.OpenSpec.upto Rows.pathqRightSpec).at F).post enc Tryd.prog Tryd.f4 false true false false) := by
  obtain ⟨places, hx⟩ := reads os enc
  refine returnsInHanded_of_row (C := Tryd.checked) (s := (Rows.OpenSpec.upto Rows.pathqRightSpec)) own started (by kernel_rfl) Tryd.func4
    (witness_row_at (enc := enc) (C := Tryd.checked) false (World.doorLaid Tryd.prog 400 os) #[.slice none 0 0] rfl (by kernel_rfl) (by kernel_rfl) (by kernel_rfl)
      (OpenSpec.preRow_of_cond 8 hx (by kernel_rfl) (fun k hk => by cases hk; kernel_rfl) (by kernel_rfl) (laid_met os _))) ?_
  intro W base args ds gs before hval hW _ hcond hsz hL _ _
  exact contract H enc W base args ds gs before hval hW hL (hcond _ rfl)

theorem over : Rows.PathqRightUptoSaid :=
  OpenClaim.holds_of_cond 4 Tryd.f4 rfl rfl rfl rfl rfl rfl rfl ⟨rfl, rfl, rfl, rfl, rfl⟩ rfl rfl rfl rfl rfl (by kernel_rfl) Tryd.func4 (by kernel_rfl)
    (of_decide_eq_true (by kernel_rfl)) (by unfold Func.isWrapper; first | (rw [if_pos (by decide +kernel)]; kernel_rfl) | (rw [if_neg (by decide +kernel)]; exact ⟨rfl, rfl⟩))
    (fun os started H enc _ F => by rw [OpenClaim.pre_eq_preRow]; exact lifted os started H enc F)
theorem plain (f : FuncId) (fn : Func) (hf : Tryd.pinned.checked.prog.funcNamed Rows.pathqRightUptoRow.func = some f) (hfn : Tryd.pinned.checked.prog.funcs[f]? = some fn) :
    false = Tryd.pinned.checked.prog.looks [] ∧ ∀ (j : Nat) t, fn.params[j]? = some t → Tryd.pinned.checked.prog.wantsStandIn t = false := by
  obtain rfl : f = 4 := Option.some.inj ((show Tryd.prog.funcNamed Rows.pathqRightUptoRow.func = some 4 by kernel_rfl).symm.trans hf) |>.symm
  obtain rfl : fn = Tryd.f4 := (Option.some.inj (Tryd.func4.symm.trans hfn)).symm
  refine ⟨by kernel_rfl, fun j t ht => ?_⟩
  rw [Tryd.params4] at ht
  have hm : t ∈ [22] := by simpa using Array.mem_of_getElem? ht
  have hall : ([22].all fun u => !Tryd.prog.wantsStandIn u) = true := by kernel_rfl
  exact (show Tryd.prog.wantsStandIn t = false by simpa using List.all_eq_true.1 hall t hm)
end PathqRight

theorem pathqRightUpto_holds : Rows.PathqRightUptoCardSaid :=
  Claim7.holds_tied_plain_at .later [] _ _ _ _ PathqRight.over (fun _ h => by cases h) (by kernel_rfl) (fun _ h => by cases h) pathqRightUpto_row_tie rfl ⟨rfl, rfl⟩ (by kernel_rfl) rfl PathqRight.plain (by kernel_rfl)
#print axioms pathqRightUpto_holds
end Go.Proofs.YtncgkglebpobpaaDoor
