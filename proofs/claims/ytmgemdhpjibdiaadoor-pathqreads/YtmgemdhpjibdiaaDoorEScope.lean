/- A law of control: a scope in which the run jumps forward to some labels, and back to one: what holds at every jump back is given, with a measure; a jump forward is walked on from its label. No program is spoken of here. -/
import Derived.ScopeJumps
import Derived.WalkKit
namespace Go.Proofs.YtmgemdhpjibdiaaDoor
open Go.RowKit
/-- What is owed at a way out of a scope whose labels are told by F: at a jump to label j: J; at another one, while n is left: the walk from that label on; else Q. -/
def landQ (P : Program) (F : Nat → Option Code) (j : Nat) (J : Act → World → Prop) (Q : Exit → Act → World → Prop) : Nat → Exit → Act → World → Prop
  | 0, .goto l, a, w => l = j ∧ J a w
  | n + 1, .goto l, a, w => (l = j ∧ J a w) ∨ ∃ r, F l = some r ∧ r.wp P (landQ P F j J Q n) a w
  | _, e, a, w => Q e a w
section
variable {P : Program} {Q : Exit → Act → World → Prop}
theorem landQ_other {F : Nat → Option Code} {j : Nat} {J : Act → World → Prop} (n : Nat) {e : Exit} {a : Act} {w : World} (he : ∀ l, e ≠ .goto l) : landQ P F j J Q n e a w = Q e a w := by
  cases n <;> cases e <;> first | rfl | (rename_i l; exact absurd rfl (he l))
theorem wp_scope_land {c rest : Code} {a : Act} {w : World} (F : Nat → Option Code) (hF : F = findLabel c) (j n : Nat) (J : Act → World → Prop) (μ : Act → World → Nat) (hf : F j = some rest)
    (first : c.wp P (landQ P F j J Q n) a w)
    (pass : ∀ a w, J a w → rest.wp P (landQ P F j (fun a' w' => J a' w' ∧ μ a' w' < μ a w) Q n) a w) : (Code.scope c).wp P Q a w := by
  intro b k cs
  subst hF
  have jump : ∀ {l : Nat} {r : Code}, findLabel c l = some r → gotoIn l (.inScope c :: k) = some (.code r :: .inScope c :: k) := by
    intro l r h
    simp [gotoIn, h]
  have walkOn : ∀ (m : Nat) (J' : Act → World → Prop) (r : Code) (a : Act) (w : World),
      (∀ a w, J' a w → ∃ e a' w', Q e a' w' ∧ Arrives P (lone (b.at a (.code rest :: .inScope c :: k)) cs w) b k cs e a' w') →
      r.wp P (landQ P (findLabel c) j J' Q m) a w →
      ∃ e a' w', Q e a' w' ∧ Arrives P (lone (b.at a (.code r :: .inScope c :: k)) cs w) b k cs e a' w' := by
    intro m
    induction m with
    | zero =>
      intro J' r a w good h
      obtain ⟨e, a₁, w₁, hq, arr⟩ := h b (.inScope c :: k) cs
      cases e with
      | normal => exact ⟨.normal, a₁, w₁, hq, Steps.trans arr (.one step_inScope)⟩
      | exit i => exact ⟨.exit i, a₁, w₁, hq, fun k' hk => arr k' (by simp [exitTo, hk])⟩
      | goto l =>
        obtain ⟨rfl, hJ⟩ := hq
        obtain ⟨e₂, a₂, w₂, hq₂, arr₂⟩ := good a₁ w₁ hJ
        exact ⟨e₂, a₂, w₂, hq₂, .of_steps (arr _ (jump hf)) arr₂⟩
      | ret => exact ⟨_, a₁, w₁, hq, arr⟩
      | panic ch => exact ⟨_, a₁, w₁, hq, arr⟩
      | outgrown => exact ⟨_, a₁, w₁, hq, arr⟩
    | succ m ih =>
      intro J' r a w good h
      obtain ⟨e, a₁, w₁, hq, arr⟩ := h b (.inScope c :: k) cs
      cases e with
      | normal => exact ⟨.normal, a₁, w₁, hq, Steps.trans arr (.one step_inScope)⟩
      | exit i => exact ⟨.exit i, a₁, w₁, hq, fun k' hk => arr k' (by simp [exitTo, hk])⟩
      | goto l =>
        rcases hq with ⟨rfl, hJ⟩ | ⟨r', hr, hw⟩
        · obtain ⟨e₂, a₂, w₂, hq₂, arr₂⟩ := good a₁ w₁ hJ
          exact ⟨e₂, a₂, w₂, hq₂, .of_steps (arr _ (jump hf)) arr₂⟩
        · obtain ⟨e₂, a₂, w₂, hq₂, arr₂⟩ := ih J' r' a₁ w₁ good hw
          exact ⟨e₂, a₂, w₂, hq₂, .of_steps (arr _ (jump hr)) arr₂⟩
      | ret => exact ⟨_, a₁, w₁, hq, arr⟩
      | panic ch => exact ⟨_, a₁, w₁, hq, arr⟩
      | outgrown => exact ⟨_, a₁, w₁, hq, arr⟩
  have back : ∀ (d : Nat) (a : Act) (w : World), μ a w = d → J a w → ∃ e a' w', Q e a' w' ∧ Arrives P (lone (b.at a (.code rest :: .inScope c :: k)) cs w) b k cs e a' w' := by
    intro d
    induction d using Nat.strongRecOn with
    | _ d ih =>
      intro a w hd hJ
      exact walkOn n _ rest a w (fun a' w' h => ih _ (by rw [← hd]; exact h.2) a' w' rfl h.1) (pass a w hJ)
  obtain ⟨e, a', w', hq, arr⟩ := walkOn n J c a w (fun a w h => back _ a w rfl h) first
  refine ⟨e, a', w', hq, ?_⟩
  cases e with
  | exit i => exact fun k' hk => .head step_scope (arr k' hk)
  | goto l => exact fun k' hk => .head step_scope (arr k' hk)
  | normal => exact .head step_scope arr
  | ret => exact .of_steps (.one step_scope) arr
  | panic ch => exact .of_steps (.one step_scope) arr
  | outgrown => exact .of_steps (.one step_scope) arr
theorem landQ_jump {F : Nat → Option Code} {j : Nat} {J : Act → World → Prop} (n : Nat) {a : Act} {w : World} (h : J a w) : landQ P F j J Q n (.goto j) a w := by
  cases n
  · exact ⟨rfl, h⟩
  · exact .inl ⟨rfl, h⟩
theorem wp_up {r : Code} {R R' : Exit → Act → World → Prop} {a : Act} {w : World} (h : r.wp P R a w) (k : ∀ e a' w', R e a' w' → R' e a' w') : r.wp P R' a w := by
  intro b kk cs
  obtain ⟨e, a₁, w₁, hq, arr⟩ := h b kk cs
  exact ⟨e, a₁, w₁, k _ _ _ hq, arr⟩
theorem landQ_up {F : Nat → Option Code} {j : Nat} {J J' : Act → World → Prop} (h : ∀ a w, J a w → J' a w) : ∀ (n : Nat) (e : Exit) (a : Act) (w : World), landQ P F j J Q n e a w → landQ P F j J' Q n e a w
  | n, .normal, a, w, q => by cases n <;> exact q
  | n, .exit i, a, w, q => by cases n <;> exact q
  | n, .ret, a, w, q => by cases n <;> exact q
  | n, .panic c, a, w, q => by cases n <;> exact q
  | n, .outgrown, a, w, q => by cases n <;> exact q
  | 0, .goto l, a, w, q => ⟨q.1, h a w q.2⟩
  | n + 1, .goto l, a, w, q => by
    rcases q with ⟨rfl, q⟩ | ⟨r, hr, hw⟩
    · exact .inl ⟨rfl, h a w q⟩
    · exact .inr ⟨r, hr, wp_up hw (landQ_up h n)⟩
theorem skip_seq {r : Code} {R : Exit → Act → World → Prop} {a : Act} {w : World} (h : r.wp P R a w) : (Code.skip.seq r).wp P R a w := wp_seq (wp_skip h)
/-- The same; the way into the scope may come to the label by itself. -/
theorem wp_scope_lands {c rest : Code} {a : Act} {w : World} (F : Nat → Option Code) (hF : F = findLabel c) (j n : Nat) (J : Act → World → Prop) (μ : Act → World → Nat) (hf : F j = some (Code.skip.seq rest))
    (pass : ∀ m a w, J a w → rest.wp P (landQ P F j (fun a' w' => J a' w' ∧ μ a' w' < μ a w) Q m) a w)
    (first : (∀ m a w, J a w → rest.wp P (landQ P F j J Q m) a w) → c.wp P (landQ P F j J Q n) a w) : (Code.scope c).wp P Q a w :=
  wp_scope_land F hF j n J μ hf (first fun m a w h => wp_up (pass m a w h) (landQ_up (fun _ _ q => q.1) m)) fun a w h => skip_seq (pass n a w h)
/-- The labels' table by a name. -/
theorem scope_named {c : Code} {a : Act} {w : World} (h : ∀ F, Hid (F = findLabel c) → (Code.scope c).wp P Q a w) : (Code.scope c).wp P Q a w := h _ (show _ = _ from rfl)
end
end Go.Proofs.YtmgemdhpjibdiaaDoor
