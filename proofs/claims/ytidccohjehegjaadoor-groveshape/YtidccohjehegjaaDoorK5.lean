/- The iterator downward: what it hands back, and what that gives. -/
import Derived.RangeFuncBox
import Derived.RangeFuncCalls
import Derived.RangeFuncLeaves
import Derived.RangeFuncBound
import Derived.Test.YtidccohjehegjaaDoorK4
import Derived.Shelf.Abstract
import Derived.WalkKit
import Derived.OwnWalkIn
import Derived.TacticsInMore
import Derived.LoopNIn
import Derived.LoopIn
import Derived.Sort.QuietIn
namespace Go.Proofs.YtidccohjehegjaaDoor
open Go.RowKit
namespace Y
/-- The word of an iterator: whatever the caller's two invariants are, if the first says at least what the iterator leans on, all have come, or some have and a round has said 'no more'. -/
def Gives {α : Type} (F : Fence) (n : Nat) (P : Program) (g : Nat) (lb : Array Value) (encs : α → Array Value) (Inv : List α → World → Prop) (xs : List α) (w : World) : Prop :=
  ∀ (l : Nat) (J Jx : List α → World → Prop) (W : World), Below w.heap.size w W → (∀ s A B, J s A → A.grownBy B none → J s B) → (∀ s A B, Jx s A → A.grownBy B none → Jx s B) → (∀ pre A, J pre A → Inv pre A) →
    (∀ pre x A, J pre A → pre ++ [x] <+: xs → YieldAt F (n - 1) P l (encs x) A fun e B => (e = .returned (.bool true) ∧ J (pre ++ [x]) B) ∨ (e = .returned (.bool false) ∧ Jx (pre ++ [x]) B)) →
    J [] W →
    CallsIn F n P g (#[.func (.yield l) #[] #[]] ++ lb) W fun e B => (∃ v, e = .returned v) ∧ (J xs B ∨ ∃ pre, pre <+: xs ∧ Jx pre B)
/-- How a round's body may be left. -/
def roundEnd {α : Type} (B : Nat) (I : List α → World → Prop) (Ix : Code → List α → World → Prop) (s : List α) (W : World) : Exit → Act → World → Prop
  | .normal, _, W' => KeepsFrom B W W' ∧ I s W'
  | .ret, _, W' => KeepsFrom B W W' ∧ Ix .ret s W'
  | .exit id, _, W' => KeepsFrom B W W' ∧ Ix (.exit id) s W'
  | .goto t, _, W' => KeepsFrom B W W' ∧ Ix (.goto t) s W'
  | .panic _, _, _ => False
  | .outgrown, _, _ => False
variable {F : Fence} {n : Nat} {P : Program}
/-- The statement, outside every other such loop. -/
theorem range_law {α : Type} {g : Operand} {ps : Array Tmp} {assign body : Code} {Q : Exit → Act → World → Prop} {a : Act} {w : World}
    (hro : F.round = none) (h1 : 1 ≤ n) {gf : Nat} {lb : Array Value} (hg : a.eval g = .func (.func gf) #[] lb) (hFg : F.fn gf) (eg : ∀ args w, (callFunc gf args).run P w = .ok (.enter gf args) w)
    {encs : α → Array Value} {Inv : List α → World → Prop} {xs : List α} {w0 : World} (hseq : Gives F (n - 1) P gf lb encs Inv xs w0) (hb0 : Below w0.heap.size w0 w) (hps : ∀ x, (encs x).size = ps.size)
    (I : List α → World → Prop) (Ix : Code → List α → World → Prop) (hI : OwnFrom w.heap.size I) (hIx : ∀ c, OwnFrom w.heap.size (Ix c)) (hInv : ∀ pre A, I pre A → Inv pre A) (h0 : I [] w)
    (Ax : α → Act → World → Prop) (hAx : ∀ x a', OwnFrom w.heap.size (fun (_ : Unit) W => Ax x a' W))
    (hassign : ∀ (l : Nat) (pre : List α) (x : α) (W : World) (K : Act → World → Prop), I pre W → (∀ a' W', KeepsFrom w.heap.size W W' → I pre W' → Ax x a' W' → K a' W') →
      assign.wpIn (F.inRound l) (n - 1 - 1) P (Exit.then K (fun _ _ _ => False)) { tmps := (ps.zip (encs x)).foldl (fun t (p, v) => t.setIfInBounds p v) a.tmps, defers := [] } W)
    (hbody : ∀ (l : Nat) (pre : List α) (x : α) (a' : Act) (W : World), w.heap.size ≤ l → (∃ r, W.heap[l]? = some (.loop r)) → I pre W → Ax x a' W → pre ++ [x] <+: xs → body.wpIn (F.inRound l) (n - 1 - 1) P (roundEnd w.heap.size I Ix (pre ++ [x]) W) a' W)
    (hdone : ∀ (D : Nat) (W : World), w.heap.size ≤ D → I xs W → W.heap[D]? = some (.deferred (some [])) → Q .normal { a with defers := { target := .collected D, args := #[] } :: a.defers } W)
    (hstop : ∀ (D : Nat) (c : Code) (pre : List α) (W : World), w.heap.size ≤ D → pre <+: xs → Ix c pre W → W.heap[D]? = some (.deferred (some [])) → c.wpIn F n P Q { a with defers := { target := .collected D, args := #[] } :: a.defers } W) :
    (Code.rangeFunc g ps assign body).wpIn F n P Q a w := by
  refine wpIn_rangeFunc fun fn hfn => ?_
  rw [hro]
  obtain ⟨rc, hrc⟩ : ∃ rc : LoopState → Option Code → Loop, rc = fun st pe => { state := st, pending := pe, fn, tmps := a.tmps, params := ps, assign, body, defers := w.heap.size } := ⟨_, rfl⟩
  obtain ⟨A, hA⟩ : ∃ A, (w.alloc (.deferred (some []))).alloc (.loop (rc .ready none)) = A := ⟨_, rfl⟩
  have lA : A.heap[w.heap.size + 1]? = some (.loop (rc .ready none)) := by
    have := World.alloc_heap_new (w.alloc (.deferred (some []))) (.loop (rc .ready none))
    rw [World.size_alloc] at this
    rw [← hA]; exact this
  have kA : A.heap[w.heap.size]? = some (.deferred (some [])) := by rw [← hA]; exact (Below.heap_alloc _ _ _ (by simp)).trans (World.alloc_heap_new w _)
  have iA : I [] A := by rw [← hA]; exact hI.alloc _ (hI.alloc _ h0)
  have bA : Below w0.heap.size w0 A := by rw [← hA]; exact hb0.trans ((((Below.refl _ w).alloc (Nat.le_refl _) _).alloc (by simp) _).mono hb0.size)
  refine ⟨w.heap.size + 1, [{ target := .collected w.heap.size, args := #[] }], A, { target := .fn (.func gf) lb, args := #[.func (.yield (w.heap.size + 1)) #[] #[]] }, A, gf,
    #[.func (.yield (w.heap.size + 1)) #[] #[]] ++ lb, A, ?_, ?_, ?_, ?_, fun _ => h1, ?_⟩
  · rw [← hA, hrc]; exact run_enterLoop_outer _ _ _ _ _
  · simp only [resolve, hg]
    simp [go_sem]
  · intro f' hf'; simp [Target.leads] at hf'; subst hf'; exact hFg
  · simp [invoke, go_sem, eg]
  refine (hseq (w.heap.size + 1)
    (fun pre W => I pre W ∧ W.heap[w.heap.size + 1]? = some (.loop (rc .ready none)) ∧ W.heap[w.heap.size]? = some (.deferred (some [])))
    (fun pre W => ∃ c, Ix c pre W ∧ W.heap[w.heap.size + 1]? = some (.loop (rc .done (some c))) ∧ W.heap[w.heap.size]? = some (.deferred (some [])))
    A bA ?_ ?_ (fun pre W h => hInv pre W h.1) ?_ ⟨iA, lA, kA⟩).mono ?_
  · rintro s X Y ⟨p, q, r⟩ hgr
    exact ⟨hI s X Y none p hgr (fun _ e => by cases e), (hgr.block _ (Array.getElem?_eq_some_iff.1 q).1 (by simp)).trans q, (hgr.block _ (Array.getElem?_eq_some_iff.1 r).1 (by simp)).trans r⟩
  · rintro s X Y ⟨c, p, q, r⟩ hgr
    exact ⟨c, hIx c s X Y none p hgr (fun _ e => by cases e), (hgr.block _ (Array.getElem?_eq_some_iff.1 q).1 (by simp)).trans q, (hgr.block _ (Array.getElem?_eq_some_iff.1 r).1 (by simp)).trans r⟩
  · rintro pre x W ⟨hi, hl, hk⟩ hlen
    have hy := run_yield (P := P) (args := encs x) hl (by rw [hrc]; exact hps x)
    rw [hrc] at hy
    refine ⟨fn, _, assign, body, hy, roundIn_of_wpIn hfn (hassign _ pre x W _ hi fun a' V kf hi' hax => ?_)⟩
    have hl1 := kf.same _ _ (by omega) hl rfl
    have hk1 := kf.same _ _ (Nat.le_refl _) hk rfl
    refine ⟨_, run_beginRound hl1 (by rw [hrc]), ?_⟩
    have hl2 : (V.putObj (w.heap.size + 1) (.loop { rc .ready none with state := .busy })).heap[w.heap.size + 1]? = some (.loop { rc .ready none with state := .busy }) := World.putObj_heap_same (Array.getElem?_eq_some_iff.1 hl1).1
    have hk2 : (V.putObj (w.heap.size + 1) (.loop { rc .ready none with state := .busy })).heap[w.heap.size]? = some (.deferred (some [])) := (World.putObj_heap_other (by omega)).trans hk1
    refine wpIn_mono (hbody _ pre x a' _ (by omega) ⟨_, hl2⟩ (hI.putObj _ hi' (by omega) hl1 rfl) ((hAx x a').putObj (s := ()) _ hax (by omega) hl1 rfl) hlen) ?_
    have fin : ∀ (j : Option Code) (Z : World), KeepsFrom w.heap.size (V.putObj (w.heap.size + 1) (.loop { rc .ready none with state := .busy })) Z →
        (Instr.endRound (w.heap.size + 1) j).run P Z = .ok (.bool j.isNone) (Z.putObj (w.heap.size + 1) (.loop (rc (if j.isNone then .ready else .done) j))) ∧
        Z.heap[w.heap.size + 1]? = some (.loop { rc .ready none with state := .busy }) ∧
        (Z.putObj (w.heap.size + 1) (.loop (rc (if j.isNone then .ready else .done) j))).heap[w.heap.size + 1]? = some (.loop (rc (if j.isNone then .ready else .done) j)) ∧
        (Z.putObj (w.heap.size + 1) (.loop (rc (if j.isNone then .ready else .done) j))).heap[w.heap.size]? = some (.deferred (some [])) := fun j Z kz => by
      have lz := kz.same _ _ (by omega) hl2 rfl
      have := run_endRound (P := P) j lz
      rw [hrc] at this lz ⊢
      exact ⟨this, lz, World.putObj_heap_same (Array.getElem?_eq_some_iff.1 lz).1, (World.putObj_heap_other (by omega)).trans (kz.same _ _ (Nat.le_refl _) hk2 rfl)⟩
    rintro e a3 Z hp
    cases e with
    | normal =>
      obtain ⟨kz, hz⟩ := hp
      obtain ⟨r1, r2, r3, r4⟩ := fin none Z kz
      exact ⟨_, _, r1, .inl ⟨rfl, hI.putObj _ hz (by omega) r2 rfl, r3, r4⟩⟩
    | ret =>
      obtain ⟨kz, hz⟩ := hp
      obtain ⟨r1, r2, r3, r4⟩ := fin (some .ret) Z kz
      exact ⟨_, _, r1, .inr ⟨rfl, .ret, (hIx _).putObj _ hz (by omega) r2 rfl, r3, r4⟩⟩
    | exit id =>
      obtain ⟨kz, hz⟩ := hp
      obtain ⟨r1, r2, r3, r4⟩ := fin (some (.exit id)) Z kz
      exact ⟨_, _, r1, .inr ⟨rfl, .exit id, (hIx _).putObj _ hz (by omega) r2 rfl, r3, r4⟩⟩
    | goto t =>
      obtain ⟨kz, hz⟩ := hp
      obtain ⟨r1, r2, r3, r4⟩ := fin (some (.goto t)) Z kz
      exact ⟨_, _, r1, .inr ⟨rfl, .goto t, (hIx _).putObj _ hz (by omega) r2 rfl, r3, r4⟩⟩
    | panic ch => exact hp.elim
    | outgrown => exact hp.elim
  · rintro e Z ⟨⟨v, rfl⟩, (⟨hi, hl, hk⟩ | ⟨pre, hS, c, hi, hl, hk⟩)⟩
    · have r := run_endLoop (P := P) hl (by rw [hrc]; simp)
      rw [hrc] at r hl
      exact ⟨none, _, r, hdone _ _ (Nat.le_refl _) (hI.putObj _ hi (by omega) hl rfl) ((World.putObj_heap_other (by omega)).trans hk)⟩
    · have r := run_endLoop (P := P) hl (by rw [hrc]; simp)
      rw [hrc] at r hl
      exact ⟨some c, _, r, hstop _ c pre _ (Nat.le_refl _) hS ((hIx c).putObj _ hi (by omega) hl rfl) ((World.putObj_heap_other (by omega)).trans hk)⟩
end Y
end Go.Proofs.YtidccohjehegjaaDoor
namespace Go.Proofs.YtidccohjehegjaaDoor
open Go.RowKit
namespace N
open T
abbrev V := Int × NS
/-- A forest's nodes in order, with their levels, each where 'sl' says that it lies. -/
def walkF (sl : Int → Slot) : F → Int → Int → List V
  | none, _, _ => []
  | some ⟨i, x, k, s⟩, n, q => (n, (⟨i, q, atL x 0, tops k⟩, sl i)) :: (walkF sl k (n + 1) i ++ walkF sl s n q)
theorem walk_none (sl : Int → Slot) (n q : Int) : walkF sl none n q = [] := by simp [walkF]
theorem walk_cons (sl : Int → Slot) (i : Int) (x : P.Itm) (k s : F) (n q : Int) : walkF sl (some ⟨i, x, k, s⟩) n q = (n, (⟨i, q, atL x 0, tops k⟩, sl i)) :: (walkF sl k (n + 1) i ++ walkF sl s n q) := by rw [walkF]
theorem walk_app (sl : Int → Slot) : ∀ (f g : F) (n q : Int), walkF sl (app f g) n q = walkF sl f n q ++ walkF sl g n q
  | none, g, n, q => by simp [app, walk_none]
  | some ⟨i, x, k, s⟩, g, n, q => by rw [app, walk_cons, walk_cons, walk_app sl s g n q, List.cons_append, List.append_assoc]
theorem walk_ents (sl : Int → Slot) : ∀ (f : F) (n q : Int), (walkF sl f n q).map (·.2) = (ents f q).map fun e => (e, sl e.id)
  | none, n, q => by simp [walk_none, ents]
  | some ⟨i, x, k, s⟩, n, q => by rw [walk_cons, ents, List.map_cons, List.map_append, List.map_cons, List.map_append, walk_ents sl k, walk_ents sl s]
theorem walk_rows (sl : Int → Slot) : ∀ (f : F) (n q : Int), (walkF sl f n q).map (fun x => (x.2.1.id, atL x.2.1.x x.1)) = rows f n
  | none, n, q => by simp [walk_none, rows]
  | some ⟨i, x, k, s⟩, n, q => by
    rw [walk_cons, rows, List.map_cons, List.map_append, walk_rows sl k, walk_rows sl s]
    rfl
theorem walk_ids (sl : Int → Slot) (f : F) (n q : Int) : (walkF sl f n q).map (·.2.1.id) = ids f := by
  have h := congrArg (List.map (·.1)) (walk_rows sl f n q)
  rw [List.map_map, rows_ids] at h
  exact h
theorem drop_some : ∀ (f : F) (a : Nat), a < (tops f).length → ∃ i x k s, dropN f a = some ⟨i, x, k, s⟩ ∧ (tops f)[a]? = some i ∧ takeN f (a + 1) = app (takeN f a) (some ⟨i, x, k, none⟩)
  | none, a, h => by simp [tops] at h
  | some ⟨i, x, k, s⟩, 0, _ => ⟨i, x, k, s, by simp [dropN], by simp [tops], by cases s <;> simp [takeN, app]⟩
  | some ⟨i, x, k, s⟩, a + 1, h => by
    rw [tops, List.length_cons] at h
    obtain ⟨j, y, kk, t, h1, h2, h3⟩ := drop_some s a (by omega)
    refine ⟨j, y, kk, t, by rw [dropN, h1], by rw [tops]; simpa using h2, ?_⟩
    rw [takeN, h3, takeN, app]
/-- How many nodes. -/
theorem walk_len (sl : Int → Slot) (f : F) (n q : Int) : (walkF sl f n q).length = (ids f).length := by rw [← walk_ids sl f n q, List.length_map]
theorem tops_len : ∀ f : F, (tops f).length ≤ (ids f).length
  | none => by simp [tops, ids]
  | some ⟨i, x, k, s⟩ => by
    have := tops_len s
    rw [tops, ids, List.length_cons, List.length_cons, List.length_append]
    omega
theorem ids_app' (f g : F) : (ids (app f g)).length = (ids f).length + (ids g).length := by rw [ids_app, List.length_append]
theorem ids_drop (f : F) (a : Nat) : (ids (dropN f a)).length ≤ (ids f).length := by
  have := congrArg (fun f => (ids f).length) (take_drop f a)
  simp only [ids_app'] at this
  omega
theorem ents_drop (f : F) (a : Nat) (q : Int) : ∀ e ∈ ents (dropN f a) q, e ∈ ents f q := by
  intro e he
  have := congrArg (fun f => ents f q) (take_drop f a)
  simp only [ents_app] at this
  rw [← this]
  exact List.mem_append_right _ he
end N
end Go.Proofs.YtidccohjehegjaaDoor
namespace Go.Proofs.YtidccohjehegjaaDoor
open Go.RowKit Go.Shelf
attribute [local go_sem] Oper.semAt_some
theorem round_any {F : Fence} (hd : F.depth = none) {m m' : Nat} {P : Program} {l : Nat} {f : FuncId} {tmps : Array Value} {assign body : Code} {w : World} {R : Ending → World → Prop}
    (h : RoundIn F m P l f tmps assign body w R) : RoundIn F m' P l f tmps assign body w R := ⟨h.1, fun c cs _ => h.2 c cs (fun d hh => by rw [hd] at hh; cases hh)⟩
theorem yield_any {F : Fence} (hd : F.depth = none) {m : Nat} (m' : Nat) {P : Program} {l : Nat} {args : Array Value} {W : World} {R : Ending → World → Prop} (h : YieldAt F m P l args W R) : YieldAt F m' P l args W R := by
  obtain ⟨fn, tmps, assign, body, hy, hR⟩ := h
  exact ⟨fn, tmps, assign, body, hy, round_any hd hR⟩
namespace N
open T
def encV (x : V) : Array Value := #[.int .i64 x.1, .pointer (some ⟨x.2.2.g, 0, none⟩)]
/-- What an iterator over a tree leans on: the nodes lie, and who has not come yet is found by its id. -/
structure Look (tb mb : Nat) (L : List NS) (pre : List V) (W : World) : Prop where
  top : W.cell? ⟨tb, 0, none⟩ = some (.map (some mb))
  nodes : ∀ p ∈ L, NodeIn 0 p.1 p.2 W
  map : ∀ p ∈ L, p.1.id ∉ pre.map (·.2.1.id) → wfI p.1.id → ∀ W' : World, W'.heap[mb]? = W.heap[mb]? → (Instr.lookup 62 (.map (some mb)) (.int .i64 p.1.id) false).run Tryd.prog W' = .ok (.pointer (some ⟨p.2.g, 0, none⟩)) W'
section
variable {tb mb l : Nat} {L : List NS} {sl : Int → Slot} {tot : List V} {J Jx : List V → World → Prop}
set_option maxRecDepth 100000 in
set_option maxHeartbeats 2000000 in
theorem visit_in (hJ : ∀ pre A, J pre A → Look tb mb L pre A) (hnd : (tot.map (·.2.1.id)).Nodup) (hw : ∀ x ∈ tot, wfI x.2.1.id)
    (hY : ∀ m pre x A, J pre A → pre ++ [x] <+: tot → YieldAt Fence.wide m Tryd.prog l (encV x) A fun e B => (e = .returned (.bool true) ∧ J (pre ++ [x]) B) ∨ (e = .returned (.bool false) ∧ Jx (pre ++ [x]) B)) :
    ∀ (m : Nat) (i : Int) (x : P.Itm) (k : F) (q : Int) (lev : Nat) (pre : List V) (n : Nat) (W : World), (ids k).length < m → lev + m ≤ 1000000 → pre ++ walkF sl (some ⟨i, x, k, none⟩) (lev : Int) q <+: tot → (∀ e ∈ ents (some ⟨i, x, k, none⟩) q, (e, sl e.id) ∈ L) → J pre W →
      CallsIn Fence.wide n Tryd.prog 46 #[.pointer (some ⟨tb, 0, none⟩), .pointer (some ⟨(sl i).g, 0, none⟩), .int .i64 (lev : Int), .func (.yield l) #[] #[]] W fun e B =>
        (e = .returned (.bool true) ∧ J (pre ++ walkF sl (some ⟨i, x, k, none⟩) (lev : Int) q) B) ∨ (e = .returned (.bool false) ∧ ∃ p, p <+: tot ∧ Jx p B)
  | 0, _, _, _, _, _, _, _, _, h, _, _, _, _ => by omega
  | m + 1, i, x, k, q, lev, pre, n, W, hm, hlev, htot, hL, h0 => by
    have IH := fun i x k q lev pre n W => visit_in hJ hnd hw hY m i x k q lev pre n W
    have HIH := hid IH
    clear IH
    rw [walk_cons, walk_none, List.append_nil] at htot ⊢
    have he0 : (⟨i, q, atL x 0, tops k⟩ : Nd) ∈ ents (some ⟨i, x, k, none⟩) q := by rw [ents]; exact List.mem_cons_self ..
    have hl0 := hL _ he0
    simp only at hl0
    have hp1 : pre ++ [((lev : Int), ((⟨i, q, atL x 0, tops k⟩ : Nd), sl i))] <+: tot := by
      obtain ⟨r, hr⟩ := htot
      exact ⟨walkF sl k ((lev : Int) + 1) i ++ r, by rw [← hr]; simp⟩
    obtain ⟨fn, tmps, assign, body, hy, hR⟩ := hY (n - 1) pre _ W h0 hp1
    unfold encV at hy
    simp only at hy
    have HT := hid htot
    have HL := hid hL
    have H0 := hid hl0
    have HP1 := hid hp1
    have hkl : (tops k).length ≤ 1000000 := by have := tops_len k; omega
    have HM : Hid ((ids k).length < m + 1) := hid hm
    clear hm hL he0 hl0 hp1 h0 htot
    refine callsIn_of_wp Tryd.func46 rfl trivial ?_ rfl
    simp only [Tryd.ntmps46, List.size_toArray, List.length_cons, List.length_nil, Nat.reduceAdd, Nat.reduceSub, Array.replicate_succ, Array.replicate_zero, List.push_toArray, List.append_toArray, List.nil_append, List.cons_append]
    gi_wp2
    refine ⟨fun h => (by cases h), ?_⟩
    refine hR.mono ?_
    clear hR hy
    rintro e B (⟨rfl, hj⟩ | ⟨rfl, hjx⟩)
    · have hl0 := H0.out
      have hn := (hJ _ _ hj).nodes _ hl0
      obtain ⟨d0, d1, d2, d3, d4, d5, d6, d7⟩ := hn.cells
      obtain ⟨ka, kc, hkv⟩ := kv_form hn
      dsimp only at hkv
      rw [hkv] at d7
      have HKV := hid hkv
      have HJ0 := hid hj
      clear hn hl0 d0 d1 d2 d3 d4 d5 d6 hkv hj
      dsimp only at d7
      gi_wp2
      gi_loopw [21] (fun v21 wr => ∃ j : Nat, v21 = .int .i64 (j : Int) ∧ j ≤ (tops k).length ∧ Hid (J (pre ++ (((lev : Int), ((⟨i, q, atL x 0, tops k⟩ : Nd), sl i)) :: walkF sl (takeN k j) ((lev : Int) + 1) i)) wr)) (fun v21 _ => (tops k).length - (intOf v21).toNat)
      case atStart => exact ⟨0, rfl, by omega, hid (by have := HJ0.out; cases k <;> simpa [takeN, walk_none] using this)⟩
      case round =>
        clear HJ0 d7
        obtain ⟨j, rfl, hj, HJ⟩ := hrel
        by_cases hlt : j < (tops k).length
        · have hlt' : (j : Int) < ((tops k).length : Int) := by omega
          obtain ⟨i', x', k', s', e1, e2, e3⟩ := drop_some k j hlt
          have hK := hJ _ _ HJ.out
          have hn := hK.nodes _ H0.out
          obtain ⟨g, cap, hkv2, hcc⟩ := kids_cells hn (by rintro h; rw [show (tops k) = [] from h] at hlt; simp at hlt)
          dsimp only at hkv2 hcc
          rw [HKV.out, Value.slice.injEq] at hkv2
          obtain ⟨rfl, -, rfl⟩ := hkv2
          have hc := hcc j hlt
          have hij : (tops k)[j] = i' := by rw [List.getElem?_eq_getElem hlt] at e2; simpa using e2
          rw [hij] at hc
          have hsplit : walkF sl k ((lev : Int) + 1) i = walkF sl (takeN k j) ((lev : Int) + 1) i ++ (walkF sl (some ⟨i', x', k', none⟩) ((lev : Int) + 1) i ++ walkF sl s' ((lev : Int) + 1) i) := by
            have := congrArg (fun f => walkF sl f ((lev : Int) + 1) i) (take_drop k j)
            simp only [walk_app, e1] at this
            rw [← this, walk_cons sl i' x' k' s', walk_cons sl i' x' k' none, walk_none, List.append_nil, List.cons_append]
          have hpre : (pre ++ (((lev : Int), ((⟨i, q, atL x 0, tops k⟩ : Nd), sl i)) :: walkF sl (takeN k j) ((lev : Int) + 1) i)) ++ walkF sl (some ⟨i', x', k', none⟩) ((lev : Int) + 1) i <+: tot := by
            obtain ⟨r, hr⟩ := HT.out
            refine ⟨walkF sl s' ((lev : Int) + 1) i ++ r, ?_⟩
            rw [← hr, hsplit]
            simp
          have hents : ∀ e ∈ ents (some ⟨i', x', k', none⟩) i, (e, sl e.id) ∈ L := fun e he => HL.out e (by
            rw [ents, List.mem_cons, List.mem_append]
            refine Or.inr (Or.inl (ents_drop k j i e ?_))
            rw [e1, ents, List.mem_cons, List.mem_append]
            rw [ents, List.mem_cons, List.mem_append] at he
            rcases he with he | he | he
            · exact Or.inl he
            · exact Or.inr (Or.inl he)
            · simp [ents] at he)
          have hmem := hents ⟨i', i, atL x' 0, tops k'⟩ (by rw [ents]; exact List.mem_cons_self ..)
          have hxt : ((((lev : Int) + 1), ((⟨i', i, atL x' 0, tops k'⟩ : Nd), sl i')) : V) ∈ tot := by
            refine hpre.subset ?_
            rw [walk_cons]
            simp
          have hfresh : i' ∉ (pre ++ (((lev : Int), ((⟨i, q, atL x 0, tops k⟩ : Nd), sl i)) :: walkF sl (takeN k j) ((lev : Int) + 1) i)).map (·.2.1.id) := by
            obtain ⟨r, hr⟩ := hpre
            have hn2 := hnd
            rw [← hr, walk_cons, List.map_append, List.map_append, List.nodup_append] at hn2
            have hn3 := hn2.1
            rw [List.nodup_append] at hn3
            intro hin
            exact hn3.2.2 i' hin i' (by simp) rfl
          have hlook := hK.map _ hmem hfresh (hw _ hxt) wr rfl
          have htop := hK.top
          have hidl : (ids k').length < m := by
            have h1 := ids_drop k j
            rw [e1, ids, List.length_cons, List.length_append] at h1
            have := HM.out
            omega
          dsimp only at hlook
          have HC := hid (HIH.out i' x' k' i (lev + 1) _ (n - 1) wr hidl (by omega) hpre hents HJ.out)
          have HE3 : Hid (∀ wB, J (pre ++ (((lev : Int), ((⟨i, q, atL x 0, tops k⟩ : Nd), sl i)) :: walkF sl (takeN k j) ((lev : Int) + 1) i) ++ walkF sl (some ⟨i', x', k', none⟩) ((lev : Int) + 1) i) wB → J (pre ++ (((lev : Int), ((⟨i, q, atL x 0, tops k⟩ : Nd), sl i)) :: walkF sl (takeN k (j + 1)) ((lev : Int) + 1) i)) wB) := hid (fun wB h => by
            rw [e3, walk_app]
            simpa using h)
          clear hK hn hcc hij hsplit hpre hents hmem hxt hfresh hidl e1 e2 e3
          gi_wp2
          refine ⟨trivial, fun h => (by cases h), ?_⟩
          refine HC.out.mono ?_
          clear HC HJ hlook htop hc
          rintro e B2 (⟨rfl, hj2⟩ | ⟨rfl, p, hp, hjx⟩)
          · have HJ2 := hid (HE3.out B2 hj2)
            clear hj2 HE3
            gi_wp2
            go_roundw
            case rel => exact ⟨j + 1, by go_num, by omega, HJ2⟩
            case measure => (simp [intOf]; try omega)
          · gi_wp2
            go_ret
            exact Or.inr ⟨rfl, p, hp, hjx⟩
        · obtain rfl : j = (tops k).length := by omega
          have hlt' : ¬ ((tops k).length : Int) < ((tops k).length : Int) := by omega
          have hj := HJ.out
          rw [take_all] at hj
          clear HJ
          gi_wp2
          go_ret
          exact Or.inl ⟨rfl, hj⟩
    · have hp1 := HP1.out
      gi_wp2
      go_ret
      exact Or.inr ⟨rfl, _, hp1, hjx⟩
end
end N
end Go.Proofs.YtidccohjehegjaaDoor
namespace Go.Proofs.YtidccohjehegjaaDoor
open Go.RowKit Go.Shelf
attribute [local go_sem] Oper.semAt_some
namespace N
open T
/-- Where an id's node lies. -/
def slotOf (L : List NS) (i : Int) : Slot := ((L.find? fun p => decide (p.1.id = i)).map (·.2)).getD ⟨0, .slice none 0 0, .slice none 0 0⟩
theorem slot_of : ∀ {L : List NS} {e : Nd} {s : Slot}, (L.map (·.1.id)).Nodup → (e, s) ∈ L → slotOf L e.id = s
  | (e', s') :: L, e, s, hd, h => by
    simp only [List.map_cons, List.nodup_cons] at hd
    rcases List.mem_cons.1 h with q | q
    · rw [Prod.mk.injEq] at q
      rw [q.1, q.2]
      unfold slotOf
      rw [List.find?_cons_of_pos (by simp)]
      rfl
    · have hne : e'.id ≠ e.id := fun h2 => hd.1 (by rw [h2]; exact List.mem_map_of_mem (f := fun p => p.1.id) q)
      have ih := slot_of hd.2 q
      unfold slotOf at ih ⊢
      rw [List.find?_cons_of_neg (by simpa using hne)]
      exact ih
section
variable {B tb mb : Nat} {f : F} {nx : Int} {L : List NS} {w W : World}
theorem TreeIn.idl (h : TreeIn B tb mb f nx L w) : (L.map (·.1.id)).Nodup := by
  have := h.graph.map.nd
  simpa [idg, List.map_map, Function.comp_def] using this
theorem TreeIn.ent (h : TreeIn B tb mb f nx L w) : ∀ e ∈ T.ents f 0, (e, slotOf L e.id) ∈ L := by
  intro e he
  obtain ⟨⟨e', s⟩, hp, hq⟩ := List.mem_map.1 (h.ents.mem_iff.2 he)
  simp only at hq
  subst hq
  rw [slot_of h.idl hp]
  exact hp
theorem NodeIn.zero {e : Nd} {s : Slot} (h : NodeIn B e s w) : NodeIn 0 e s w := by
  have d : ∀ {e : TypeId} {size : Nat} {v : Value} {n : Nat} {xs : List Value}, w.ownsRow B e size v n xs → w.ownsRow 0 e size v n xs := fun {e size v n xs} h => by
    refine ⟨h.1, ?_⟩
    rcases h.2 with h2 | ⟨g, cap, cur, h3, _, h5⟩
    · exact Or.inl h2
    · exact Or.inr ⟨g, cap, cur, h3, Nat.zero_le _, h5⟩
  exact ⟨h.cell, d h.attrs, d h.kids⟩
/-- A tree that lies is looked at. -/
theorem TreeIn.look (h : TreeIn B tb mb f nx L w) (pre : List V) : Look tb mb L pre w :=
  ⟨h.cells.1, fun p hp => (h.graph.nodes p hp).zero, fun p hp _ hw W' hb => by
    rw [get (h.graph.map.kept hb) hw, look_mem h.graph.map.nd (List.mem_map.2 ⟨p, hp, rfl⟩)]
    rfl⟩
theorem downward_any (id : Int) (w : World) : Calls Tryd.prog 28 #[.pointer (some ⟨tb, 0, none⟩), .int .i64 id] w fun e w' =>
    e = .returned (.func (.func 45) #[] #[.pointer (some ⟨w.heap.size, 0, none⟩), .pointer (some ⟨w.heap.size + 1, 0, none⟩)]) ∧ w' = (w.alloc (.cells #[.pointer (some ⟨tb, 0, none⟩)] 23)).alloc (.cells #[.int .i64 id] 3) := by
  go_enter Tryd.func28, Tryd.ntmps28
  go_wp2
  go_ret
  exact ⟨rfl, rfl⟩
/-- What the loop over downward leans on. -/
def InvD (tb mb b1 b2 : Nat) (L : List NS) (id : Int) (pre : List V) (W : World) : Prop := Look tb mb L pre W ∧ W.cell? ⟨b1, 0, none⟩ = some (.pointer (some ⟨tb, 0, none⟩)) ∧ W.cell? ⟨b2, 0, none⟩ = some (.int .i64 id)
set_option maxRecDepth 100000 in
set_option maxHeartbeats 2000000 in
theorem down_gives {b1 b2 : Nat} {id q : Int} {x : P.Itm} {k : F} {sl : Int → Slot} (hs : Hid (∀ e ∈ ents (some ⟨id, x, k, none⟩) q, (e, sl e.id) ∈ L)) (hnd : Hid ((ids (some ⟨id, x, k, none⟩)).Nodup)) (hw : Hid (∀ i ∈ ids (some ⟨id, x, k, none⟩), wfI i)) (hlen : Hid ((ids (some ⟨id, x, k, none⟩)).length ≤ 100000)) (n : Nat) (w : World) :
    Y.Gives Fence.wide n Tryd.prog 45 #[.pointer (some ⟨b1, 0, none⟩), .pointer (some ⟨b2, 0, none⟩)] encV (InvD tb mb b1 b2 L id) (walkF sl (some ⟨id, x, k, none⟩) 0 q) w := by
  intro l J Jx W hW hJ hJx hInv hY h0
  have hnt : ((walkF sl (some ⟨id, x, k, none⟩) 0 q).map (·.2.1.id)).Nodup := by rw [walk_ids]; exact hnd.out
  have hwt : ∀ y ∈ walkF sl (some ⟨id, x, k, none⟩) 0 q, wfI y.2.1.id := fun y hy => hw.out _ (by rw [← walk_ids sl _ 0 q]; exact List.mem_map_of_mem (f := fun y => y.2.1.id) hy)
  have hi := hInv _ _ h0
  obtain ⟨hK, hc1, hc2⟩ := hi
  have hmem := hs.out ⟨id, q, atL x 0, tops k⟩ (by rw [ents]; exact List.mem_cons_self ..)
  have hlook : ∀ m, (Instr.lookup 62 (.map (some mb)) (.int .i64 id) false).run Tryd.prog (W.drewN m) = .ok (.pointer (some ⟨(sl id).g, 0, none⟩)) (W.drewN m) := fun m => hK.map _ hmem (by simp) (hw.out id (by simp [ids])) (W.drewN m) rfl
  have htop := hK.top
  have hb := hlen.out
  rw [ids, List.length_cons, List.length_append] at hb
  have HC := hid (fun W2 (hj : J [] W2) => visit_in (n := n - 1) (sl := sl) (tot := walkF sl (some ⟨id, x, k, none⟩) 0 q) (fun pre A h => (hInv pre A h).1) hnt hwt (fun m pre x A h hp => yield_any rfl m (hY pre x A h hp)) 100001 id x k q 0 [] W2 (by omega) (by omega) (by rw [List.nil_append]; exact List.prefix_refl _) hs.out hj)
  have H0 := hid h0
  have HD := hid (fun m => hJ _ _ (W.drewN m) h0 ⟨rfl, rfl, rfl, Nat.le_refl _, fun _ _ _ => rfl⟩)
  clear hnt hwt hK hmem h0 hb hInv hY hJ hJx
  refine callsIn_of_wp Tryd.func45 rfl trivial ?_ rfl
  simp only [Tryd.ntmps45, List.size_toArray, List.length_cons, List.length_nil, Nat.reduceAdd, Nat.reduceSub, Array.replicate_succ, Array.replicate_zero, List.push_toArray, List.append_toArray, List.nil_append, List.cons_append]
  gi_wp2
  gi_quiet (fail)
  gi_wp2
  refine ⟨trivial, fun h => (by cases h), ?_⟩
  refine (HC.out _ (HD.out _)).mono ?_
  rintro e B2 (⟨rfl, hj⟩ | ⟨rfl, p, hp, hjx⟩)
  · gi_wp2
    go_end0
    exact ⟨⟨_, rfl⟩, Or.inl (by simpa using hj)⟩
  · gi_wp2
    go_end0
    exact ⟨⟨_, rfl⟩, Or.inr ⟨p, hp, hjx⟩⟩
set_option maxRecDepth 100000 in
set_option maxHeartbeats 2000000 in
theorem down_none {b1 b2 : Nat} {id : Int} (h : Hid (TreeIn B tb mb f nx L w)) (hid0 : Hid (look (idg L) id = none)) (hw : wfI id) (c1 : Hid (w.cell? ⟨b1, 0, none⟩ = some (.pointer (some ⟨tb, 0, none⟩)))) (c2 : Hid (w.cell? ⟨b2, 0, none⟩ = some (.int .i64 id))) (n : Nat) :
    Y.Gives (α := V) Fence.wide n Tryd.prog 45 #[.pointer (some ⟨b1, 0, none⟩), .pointer (some ⟨b2, 0, none⟩)] encV (fun _ _ => True) [] w := by
  intro l J Jx W hW hJ hJx hInv hY h0
  have hc1 : W.cell? ⟨b1, 0, none⟩ = some (.pointer (some ⟨tb, 0, none⟩)) := (hW.cell (p := ⟨b1, 0, none⟩) (World.block_lt_of_cell? w _ c1.out)).trans c1.out
  have hc2 : W.cell? ⟨b2, 0, none⟩ = some (.int .i64 id) := (hW.cell (p := ⟨b2, 0, none⟩) (World.block_lt_of_cell? w _ c2.out)).trans c2.out
  have hT := h.out.below hW
  have htop := hT.cells.1
  have hlook : ∀ m, (Instr.lookup 62 (.map (some mb)) (.int .i64 id) false).run Tryd.prog (W.drewN m) = .ok (.pointer none) (W.drewN m) := fun m => by
    rw [get (h.out.graph.map.kept (w' := W.drewN m) (hW.block mb h.out.graph.map.lt)) hw, hid0.out]
    rfl
  have HD := hid (fun m => hJ _ _ (W.drewN m) h0 ⟨rfl, rfl, rfl, Nat.le_refl _, fun _ _ _ => rfl⟩)
  clear hT h0 hInv hY hJ hJx
  refine callsIn_of_wp Tryd.func45 rfl trivial ?_ rfl
  simp only [Tryd.ntmps45, List.size_toArray, List.length_cons, List.length_nil, Nat.reduceAdd, Nat.reduceSub, Array.replicate_succ, Array.replicate_zero, List.push_toArray, List.append_toArray, List.nil_append, List.cons_append]
  gi_wp2
  gi_quiet (fail)
  gi_wp2
  go_end0
  exact ⟨⟨_, rfl⟩, Or.inl (HD.out _)⟩
end
end N
end Go.Proofs.YtidccohjehegjaaDoor
