/- The walk of grove's within. -/
import Derived.Test.YtidccohjehegjaaDoorNOrderK
import Derived.RangeFuncNested
namespace Go.Proofs.YtidccohjehegjaaDoor
open Go.RowKit Go.Shelf
attribute [local go_sem] Oper.semAt_some
namespace N
open T
/-- The greatest level of those that came. -/
def high (l : List Int) : Int := l.foldl max 0
theorem high_snoc (l : List Int) (x : Int) : high (l ++ [x]) = max (high l) x := by simp [high]
theorem walk_levels (sl : Int → Slot) (f : F) (n q : Int) : (walkF sl f n q).map (·.1) = (rows f n).map (·.2.level) := by
  rw [← walk_rows sl f n q, List.map_map]
  rfl
section
variable {B tb mb : Nat} {f : F} {nx : Int} {L : List NS} {w : World}
/-- Between two rounds of height. -/
def IHi (tb : Nat) (id : Int) (w : World) (pre : List V) (W : World) : Prop :=
  (Boxed W w.heap.size 3 (.int .i64 (high (pre.map (·.1)))) ∧ Boxed W (w.heap.size + 1) 23 (.pointer (some ⟨tb, 0, none⟩)) ∧ Boxed W (w.heap.size + 1 + 1) 3 (.int .i64 id)) ∧ Below w.heap.size w W
theorem IHi.own {tb : Nat} {id : Int} {w : World} {B : Nat} (hB : w.heap.size ≤ B) : OwnFrom B (IHi tb id w) :=
  OwnFrom.and (OwnFrom.and (Own.from (boxed_own _ _ (fun pre : List V => Value.int .i64 (high (pre.map (·.1))))) _) (OwnFrom.and (Own.from (boxed_own _ _ fun _ => Value.pointer (some ⟨tb, 0, none⟩)) _) (Own.from (boxed_own _ _ fun _ => Value.int .i64 id) _))) (ownFrom_below (Nat.le_refl _) hB)
theorem IHi.look {id : Int} {pre : List V} {W : World} (h : TreeIn B tb mb f nx L w) (hi : IHi tb id w pre W) : InvD tb mb (w.heap.size + 1) (w.heap.size + 1 + 1) L id pre W := ⟨(h.below hi.2).look pre, hi.1.2.1.cell, hi.1.2.2.cell⟩
set_option maxRecDepth 100000 in
set_option maxHeartbeats 2000000 in
theorem height_any (h : Hid (TreeIn B tb mb f nx L w)) (hf : Hid (Fine f)) (id : Int) (hr : wfI id) :
    Calls Tryd.prog 55 #[.pointer (some ⟨tb, 0, none⟩), .int .i64 id] w fun e w' => e = .returned (.int .i64 (high ((rows (sub f id) 0).map (·.2.level)))) ∧ Below w.heap.size w w' := by
  have W1 := (((Below.refl w.heap.size w).alloc (Nat.le_refl _) (.cells #[.int .i64 0] 3)).alloc (by simp) (.cells #[.pointer (some ⟨tb, 0, none⟩)] 23)).alloc (by simp; omega) (.cells #[.int .i64 id] 3)
  have hbx : Boxed (((w.alloc (.cells #[.int .i64 0] 3)).alloc (.cells #[.pointer (some ⟨tb, 0, none⟩)] 23)).alloc (.cells #[.int .i64 id] 3)) w.heap.size 3 (.int .i64 0) := ((Boxed.new w _ _).alloc _).alloc _
  have hb1 : Boxed (((w.alloc (.cells #[.int .i64 0] 3)).alloc (.cells #[.pointer (some ⟨tb, 0, none⟩)] 23)).alloc (.cells #[.int .i64 id] 3)) (w.heap.size + 1) 23 (.pointer (some ⟨tb, 0, none⟩)) := by
    have := (Boxed.new (w.alloc (.cells #[.int .i64 0] 3)) 23 (.pointer (some ⟨tb, 0, none⟩))).alloc (.cells #[.int .i64 id] 3)
    rw [World.size_alloc] at this
    exact this
  have hb2 : Boxed (((w.alloc (.cells #[.int .i64 0] 3)).alloc (.cells #[.pointer (some ⟨tb, 0, none⟩)] 23)).alloc (.cells #[.int .i64 id] 3)) (w.heap.size + 1 + 1) 3 (.int .i64 id) := by
    have := Boxed.new ((w.alloc (.cells #[.int .i64 0] 3)).alloc (.cells #[.pointer (some ⟨tb, 0, none⟩)] 23)) 3 (.int .i64 id)
    rw [World.size_alloc, World.size_alloc] at this
    exact this
  refine (callsIn_wide (n := 3)).1 ?_
  refine callsIn_of_wp_marks Tryd.func55 rfl trivial ?_ rfl
  simp only [Tryd.ntmps55, List.size_toArray, List.length_cons, List.length_nil, Nat.reduceAdd, Nat.reduceSub, Array.replicate_succ, Array.replicate_zero, List.push_toArray, List.append_toArray, List.nil_append, List.cons_append]
  gi_wp2_with (refine ⟨trivial, (callsIn_wide.2 (downward_any _ _)).mono ?_⟩; rintro e w' ⟨rfl, rfl⟩)
  obtain ⟨W0, hW0⟩ : ∃ W0, ((w.alloc (.cells #[.int .i64 0] 3)).alloc (.cells #[.pointer (some ⟨tb, 0, none⟩)] 23)).alloc (.cells #[.int .i64 id] 3) = W0 := ⟨_, rfl⟩
  have hs0 : W0.heap.size = w.heap.size + 3 := by rw [← hW0]; simp
  rw [hW0] at W1 hbx hb1 hb2 ⊢
  obtain ⟨q, hq, hG⟩ := down_all (hid (h.out.below W1)) hf id hr (hid hb1.cell) (hid hb2.cell) (3 - 1)
  refine Y.range_law rfl (by omega) (gf := 45) (lb := #[.pointer (some ⟨w.heap.size + 1, 0, none⟩), .pointer (some ⟨w.heap.size + 1 + 1, 0, none⟩)]) rfl trivial (enters_of Tryd.func45 (by kernel_rfl) rfl) hG (Below.refl _ _) (fun _ => rfl)
    (IHi tb id w) (fun _ _ _ => False) (IHi.own (by omega)) (fun _ _ _ _ _ hs _ _ => hs) (fun pre A hi => hi.look h.out)
    ⟨⟨hbx, hb1, hb2⟩, W1⟩
    (fun x a' W => a' = { tmps := #[.pointer (some ⟨tb, 0, none⟩), .int .i64 id, undef, undef, .int .i64 0, .pointer (some ⟨w.heap.size, 0, none⟩), .int .i64 x.1, .pointer (some ⟨tb, 0, none⟩), .int .i64 id, .func (.func 45) #[] #[.pointer (some ⟨w.heap.size + 1, 0, none⟩), .pointer (some ⟨w.heap.size + 1 + 1, 0, none⟩)], .int .i64 x.1, .pointer (some ⟨x.2.2.g, 0, none⟩), undef, undef, undef, undef], defers := [] })
    (fun x a' _ _ _ _ hs _ _ => hs) ?assign ?body ?done ?stop
  case assign =>
    intro l pre x W K hi hK
    dsimp only [encV]
    gi_wp2
    exact hK _ _ ((KeepsOthers.refl _).from _) hi rfl
  case body =>
    rintro l pre x a' W hl hrr ⟨⟨hv, i1, i2⟩, hbel⟩ rfl hp
    have e1 := hv.cell
    have e2 := hv.frozen
    gi_wp2
    refine ⟨(KeepsOthers.setCell W ⟨w.heap.size, 0, none⟩ _).from _, ⟨?_, i1.other (by omega) _, i2.other (by omega) _⟩, hbel.trans ((Below.refl w.heap.size W).setCell (p := ⟨w.heap.size, 0, none⟩) (Nat.le_refl _) _)⟩
    rw [List.map_append, List.map_cons, List.map_nil, high_snoc]
    exact hv.set _
  case done =>
    rintro D W hD ⟨⟨hv, i1, i2⟩, hbel⟩ hK
    have hvc := hv.cell
    gi_wp2
    refine ⟨by simp, .inl ⟨_, _, rfl, run_takeDeferred hK, ?_⟩⟩
    refine ⟨_, results_tmp rfl _ _ _, ?_, hbel.trans (belowK_b (w := w) (Nat.le_refl _) W D _ _ (by omega) hK rfl rfl)⟩
    rw [walk_levels]
    rfl
  case stop =>
    rintro D c pre W _ _ hx _
    exact hx.elim
end
end N
end Go.Proofs.YtidccohjehegjaaDoor
namespace Go.Proofs.YtidccohjehegjaaDoor
open Go.RowKit Go.Shelf
attribute [local go_sem] Oper.semAt_some
namespace N
open T
/-- A node, its parent, and so on. -/
def chain : F → Int → Int → List Nd
  | none, _, _ => []
  | some ⟨i, x, k, s⟩, q, d => if i = d then [⟨i, q, atL x 0, tops k⟩] else if d ∈ ids k then chain k i d ++ [⟨i, q, atL x 0, tops k⟩] else chain s q d
theorem chain_out : ∀ (f : F) (q d : Int), d ∉ ids f → chain f q d = []
  | none, _, _, _ => by rw [chain]
  | some ⟨i, x, k, s⟩, q, d, h => by
    simp only [ids, List.mem_cons, List.mem_append, not_or] at h
    rw [chain, if_neg (fun e => h.1 e.symm), if_neg h.2.1]
    exact chain_out s q d h.2.2
theorem chain_mem : ∀ (f : F) (q d : Int), ∀ e ∈ chain f q d, e ∈ ents f q
  | none, _, _, e, h => by simp [chain] at h
  | some ⟨i, x, k, s⟩, q, d, e, h => by
    rw [chain] at h
    rw [ents, List.mem_cons, List.mem_append]
    split at h
    · exact Or.inl (by simpa using h)
    · split at h
      · rcases List.mem_append.1 h with h | h
        · exact Or.inr (Or.inl (chain_mem k i d e h))
        · exact Or.inl (by simpa using h)
      · exact Or.inr (Or.inr (chain_mem s q d e h))
theorem chain_head : ∀ (f : F) (q d : Int), d ∈ ids f → ∃ e r, chain f q d = e :: r ∧ e.id = d
  | none, _, _, h => by simp [ids] at h
  | some ⟨i, x, k, s⟩, q, d, h => by
    rw [chain]
    by_cases e : i = d
    · rw [if_pos e]
      exact ⟨_, [], rfl, e⟩
    · rw [if_neg e]
      by_cases hk : d ∈ ids k
      · rw [if_pos hk]
        obtain ⟨e', r, h1, h2⟩ := chain_head k i d hk
        exact ⟨e', r ++ [⟨i, q, atL x 0, tops k⟩], by rw [h1]; rfl, h2⟩
      · rw [if_neg hk]
        simp only [ids, List.mem_cons, List.mem_append] at h
        rcases h with h | h | h
        · exact absurd h.symm e
        · exact absurd h hk
        · exact chain_head s q d h
/-- Whose kid the last one is, and each the kid of the next. -/
def links : List Nd → Int → Prop
  | [], _ => True
  | [e], q => e.par = q
  | e :: e' :: r, q => e.par = e'.id ∧ links (e' :: r) q
theorem links_snoc : ∀ (l : List Nd) (e : Nd) (q : Int), links l e.id → e.par = q → links (l ++ [e]) q
  | [], _, _, _, h => h
  | [_], _, _, h1, h2 => ⟨h1, h2⟩
  | _ :: b :: r, e, q, h1, h2 => ⟨h1.1, links_snoc (b :: r) e q h1.2 h2⟩
theorem chain_links : ∀ (f : F) (q d : Int), links (chain f q d) q
  | none, _, _ => by rw [chain]; trivial
  | some ⟨i, x, k, s⟩, q, d => by
    rw [chain]
    split
    · exact rfl
    · split
      · exact links_snoc _ ⟨i, q, atL x 0, tops k⟩ q (chain_links k i d) rfl
      · exact chain_links s q d
theorem chain_sub (f : F) (q d : Int) : ∀ i ∈ (chain f q d).map (·.id), i ∈ ids f := by
  intro i hi
  obtain ⟨e, he, rfl⟩ := List.mem_map.1 hi
  rw [← ents_ids f q]
  exact List.mem_map_of_mem (f := fun e : Nd => e.id) (chain_mem f q d e he)
theorem chain_nodup : ∀ (f : F) (q d : Int), (ids f).Nodup → ((chain f q d).map (·.id)).Nodup
  | none, _, _, _ => by simp [chain]
  | some ⟨i, x, k, s⟩, q, d, h => by
    obtain ⟨d1, d2, d3, d4, d5⟩ := nodup_parts h
    rw [chain]
    split
    · simp
    · split
      · rw [List.map_append, List.nodup_append]
        refine ⟨chain_nodup k i d d3, by simp, ?_⟩
        intro a ha b hb e
        simp only [List.map_cons, List.map_nil, List.mem_cons, List.not_mem_nil, or_false] at hb
        rw [e, hb] at ha
        exact d1 (chain_sub k i d i ha)
      · exact chain_nodup s q d d4
/-- Of how many levels the way is. -/
theorem chain_level : ∀ (f : F) (q d n : Int) (it : P.Itm), (ids f).Nodup → (d, it) ∈ rows f n → it.level = n + ((chain f q d).length : Int) - 1
  | none, _, _, _, _, _, h => by simp [rows] at h
  | some ⟨i, x, k, s⟩, q, d, n, it, hd, h => by
    obtain ⟨d1, d2, d3, d4, d5⟩ := nodup_parts hd
    have hin : ∀ (g : F) (m : Int), (d, it) ∈ rows g m → d ∈ ids g := fun g m h => by
      rw [← rows_ids g m]
      exact List.mem_map_of_mem (f := fun p : Int × P.Itm => p.1) h
    rw [rows, List.mem_cons, List.mem_append] at h
    rw [chain]
    rcases h with h | h | h
    · rw [Prod.mk.injEq] at h
      rw [if_pos h.1.symm, h.2]
      simp [atL]
    · have hk := hin k _ h
      have hne : i ≠ d := fun e => d1 (by rw [e]; exact hk)
      rw [if_neg hne, if_pos hk, chain_level k i d (n + 1) it d3 h, List.length_append]
      simp
      omega
    · have hs := hin s _ h
      have hne : i ≠ d := fun e => d2 (by rw [e]; exact hs)
      have hk : d ∉ ids k := fun hk => d5 d hk hs
      rw [if_neg hne, if_neg hk]
      exact chain_level s q d n it d4 h
theorem in_sub {i : Int} {x : P.Itm} {k s : F} {o d : Int} (hd : (ids (some ⟨i, x, k, s⟩)).Nodup) (e : i ≠ o) : d ∈ ids (sub (some ⟨i, x, k, s⟩) o) ↔ d ∈ ids (sub k o) ∨ d ∈ ids (sub s o) := by
  obtain ⟨d1, d2, d3, d4, d5⟩ := nodup_parts hd
  by_cases hk : o ∈ ids k
  · rw [sub_k e d3 hk, sub_none s o (d5 o hk)]
    simp [ids]
  · rw [sub_s e hk, sub_none k o hk]
    simp [ids]
/-- Who is on the way up has the node below it. -/
theorem chain_sub_iff : ∀ (f : F) (q d o : Int), (ids f).Nodup → d ∈ ids f → (o ∈ (chain f q d).map (·.id) ↔ d ∈ ids (sub f o))
  | none, _, _, _, _, h => by simp [ids] at h
  | some ⟨i, x, k, s⟩, q, d, o, hd, h => by
    obtain ⟨d1, d2, d3, d4, d5⟩ := nodup_parts hd
    simp only [ids, List.mem_cons, List.mem_append] at h
    rw [chain]
    by_cases e : i = d
    · rw [if_pos e]
      by_cases eo : i = o
      · rw [sub, if_pos eo]
        simp [ids, ← e, ← eo]
      · rw [in_sub hd eo]
        simp only [List.map_cons, List.map_nil, List.mem_cons, List.not_mem_nil, or_false]
        refine ⟨fun h => absurd h.symm eo, fun h => ?_⟩
        rcases h with h | h
        · exact absurd (sub_ids_sub k o d3 d h) (by rw [← e]; exact d1)
        · exact absurd (sub_ids_sub s o d4 d h) (by rw [← e]; exact d2)
    · rw [if_neg e]
      have h' : d ∈ ids k ∨ d ∈ ids s := by
        rcases h with h | h
        · exact absurd h.symm e
        · exact h
      by_cases hk : d ∈ ids k
      · rw [if_pos hk]
        have hs : d ∉ ids s := d5 d hk
        have IH := chain_sub_iff k i d o d3 hk
        rw [List.map_append, List.mem_append, IH]
        by_cases eo : i = o
        · rw [sub, if_pos eo]
          simp [ids, eo, hk]
        · rw [in_sub hd eo]
          refine ⟨fun h => ?_, fun h => ?_⟩
          · rcases h with h | h
            · exact Or.inl h
            · simp at h; exact absurd h.symm eo
          · rcases h with h | h
            · exact Or.inl h
            · exact absurd (sub_ids_sub s o d4 d h) hs
      · rw [if_neg hk]
        have hs : d ∈ ids s := h'.resolve_left hk
        rw [chain_sub_iff s q d o d4 hs]
        by_cases eo : i = o
        · rw [sub, if_pos eo]
          have : o ∉ ids s := by rw [← eo]; exact d2
          rw [sub_none s o this]
          simp [ids, hk, Ne.symm e]
        · rw [in_sub hd eo]
          refine ⟨Or.inr, fun h => ?_⟩
          rcases h with h | h
          · exact absurd (sub_ids_sub k o d3 d h) hk
          · exact h
end N
end Go.Proofs.YtidccohjehegjaaDoor
namespace Go.Proofs.YtidccohjehegjaaDoor
open Go.RowKit Go.Shelf
attribute [local go_sem] Oper.semAt_some
namespace N
open T
section
variable {B tb mb : Nat} {f : F} {nx : Int} {L : List NS} {w W : World}
theorem upward_any (id : Int) (w : World) : Calls Tryd.prog 73 #[.pointer (some ⟨tb, 0, none⟩), .int .i64 id] w fun e w' =>
    e = .returned (.func (.func 85) #[] #[.pointer (some ⟨w.heap.size, 0, none⟩), .pointer (some ⟨w.heap.size + 1, 0, none⟩)]) ∧ w' = (w.alloc (.cells #[.pointer (some ⟨tb, 0, none⟩)] 23)).alloc (.cells #[.int .i64 id] 3) := by
  go_enter Tryd.func73, Tryd.ntmps73
  go_wp2
  go_ret
  exact ⟨rfl, rfl⟩
def encU (p : NS) : Array Value := #[.pointer (some ⟨p.2.g, 0, none⟩)]
/-- What the loop over upward leans on. -/
def InvU (B tb mb : Nat) (f : F) (nx : Int) (L : List NS) (b1 b2 : Nat) (id : Int) (_ : List NS) (W : World) : Prop := TreeIn B tb mb f nx L W ∧ W.cell? ⟨b1, 0, none⟩ = some (.pointer (some ⟨tb, 0, none⟩)) ∧ W.cell? ⟨b2, 0, none⟩ = some (.int .i64 id)
def headA : List NS → Option Addr
  | [] => none
  | p :: _ => some ⟨p.2.g, 0, none⟩
theorem headA_nil : headA [] = none := rfl
theorem headA_cons (p : NS) (r : List NS) : headA (p :: r) = some ⟨p.2.g, 0, none⟩ := rfl
/-- How many are left. -/
def leftU (xs : List NS) (p : Value) : Nat := match p with
  | .pointer (some a) => xs.length - (xs.map (·.2.g)).idxOf a.block
  | _ => 0
theorem left_at {xs pre rest : List NS} {p : NS} (h : xs = pre ++ p :: rest) (hd : (xs.map (·.2.g)).Nodup) : leftU xs (.pointer (headA (p :: rest))) = rest.length + 1 := by
  unfold leftU headA
  simp only
  rw [h, List.map_append, List.map_cons] at hd
  have hn : p.2.g ∉ pre.map (·.2.g) := by
    rw [List.nodup_append] at hd
    exact fun q => hd.2.2 _ q _ (List.mem_cons_self ..) rfl
  rw [h, List.map_append, List.map_cons, List.idxOf_append, if_neg hn, List.idxOf_cons_self, List.length_map, List.length_append, List.length_cons]
  omega
set_option maxRecDepth 100000 in
set_option maxHeartbeats 2000000 in
theorem up_gives {b1 b2 : Nat} {id : Int} {xs : List NS} (hxs : Hid (∀ p ∈ xs, p ∈ L)) (hnd : Hid ((xs.map (·.2.g)).Nodup))
    (h1 : Hid (∀ W m, TreeIn B tb mb f nx L W → (Instr.lookup 62 (.map (some mb)) (.int .i64 id) false).run Tryd.prog (W.drewN m) = .ok (.pointer (headA xs)) (W.drewN m)))
    (h2 : Hid (∀ pre p rest, xs = pre ++ p :: rest → ∀ W m, TreeIn B tb mb f nx L W → (Instr.lookup 62 (.map (some mb)) (.int .i64 p.1.par) false).run Tryd.prog (W.drewN m) = .ok (.pointer (headA rest)) (W.drewN m))) (n : Nat) (w : World) :
    Y.Gives Fence.wide n Tryd.prog 85 #[.pointer (some ⟨b1, 0, none⟩), .pointer (some ⟨b2, 0, none⟩)] encU (InvU B tb mb f nx L b1 b2 id) xs w := by
  intro l J Jx W hW hJ hJx hInv hY h0
  obtain ⟨hT, hc1, hc2⟩ := hInv _ _ h0
  have htop := hT.cells.1
  have hlook := fun m => h1.out W m hT
  have HJ := hid hJ
  have HI := hid hInv
  have HY := hid hY
  have HD := hid (fun m => hJ _ _ (W.drewN m) h0 ⟨rfl, rfl, rfl, Nat.le_refl _, fun _ _ _ => rfl⟩)
  clear hT h0 hInv hY hJ hJx
  obtain ⟨a0, ha0⟩ : ∃ a0, Hid (headA xs = a0) := ⟨_, hid rfl⟩
  rw [ha0.out] at hlook
  refine callsIn_of_wp Tryd.func85 rfl trivial ?_ rfl
  simp only [Tryd.ntmps85, List.size_toArray, List.length_cons, List.length_nil, Nat.reduceAdd, Nat.reduceSub, Array.replicate_succ, Array.replicate_zero, List.push_toArray, List.append_toArray, List.nil_append, List.cons_append]
  gi_wp2
  gi_quiet (fail)
  gi_wp2
  gi_loopw [4] (fun p wr => ∃ pre rest, p = .pointer (headA rest) ∧ Hid (xs = pre ++ rest) ∧ Hid (J pre wr)) (fun p _ => leftU xs p)
  case atStart => exact ⟨[], xs, by rw [ha0.out], hid rfl, hid (HD.out _)⟩
  case round =>
    clear hc1 hc2 htop hlook HD
    obtain ⟨pre, rest, rfl, hx, hj⟩ := hrel
    cases rest with
    | nil =>
      have hj0 := hj.out
      have hx0 := hx.out
      rw [List.append_nil] at hx0
      rw [headA_nil]
      gi_wp2
      refine ⟨fun _ h => (by cases h), ?_⟩
      gi_wp2
      go_end0
      exact ⟨⟨_, rfl⟩, Or.inl (by rw [hx0]; exact hj0)⟩
    | cons x rest =>
      obtain ⟨fn, tmps, assign, body, hy, hR⟩ := HY.out pre x wr hj.out (by rw [hx.out]; exact ⟨rest, by simp⟩)
      have hm := left_at hx.out hnd.out
      unfold encU at hy
      rw [headA_cons] at hm ⊢
      gi_wp2
      refine ⟨fun h => (by cases h), ?_⟩
      refine hR.mono ?_
      clear hR hy
      rintro e B2 (⟨rfl, hj2⟩ | ⟨rfl, hjx⟩)
      · obtain ⟨hT, hc1, hc2⟩ := HI.out _ _ hj2
        have htop := hT.cells.1
        obtain ⟨d0, d1, _⟩ := (hT.graph.nodes _ (hxs.out x (by rw [hx.out]; simp))).cells
        have hlook := fun m => h2.out pre x rest hx.out B2 m hT
        have HD2 := hid (fun m => HJ.out _ _ (B2.drewN m) hj2 ⟨rfl, rfl, rfl, Nat.le_refl _, fun _ _ _ => rfl⟩)
        obtain ⟨a1, ha1⟩ : ∃ a1, Hid (headA rest = a1) := ⟨_, hid rfl⟩
        rw [ha1.out] at hlook
        clear hT d0 hj2
        gi_wp2
        gi_quiet (fail)
        gi_wp2
        go_roundw
        case rel => exact ⟨pre ++ [x], rest, by rw [ha1.out], hid (by rw [hx.out]; simp), hid (HD2.out _)⟩
        case measure =>
          show leftU xs (.pointer a1) < leftU xs (.pointer (some ⟨x.2.g, 0, none⟩))
          rw [hm, ← ha1.out]
          cases hr : rest with
          | nil => simp [headA_nil, leftU]
          | cons y r =>
            rw [hr] at hx
            rw [left_at (pre := pre ++ [x]) (by rw [hx.out]; simp) hnd.out]
            simp
      · have hx0 := hx.out
        gi_wp2
        go_end0
        exact ⟨⟨_, rfl⟩, Or.inr ⟨pre ++ [x], ⟨rest, by rw [hx0]; simp⟩, hjx⟩⟩
theorem block_inj : ∀ {L : List NS}, (allB L).Nodup → ∀ p ∈ L, ∀ q ∈ L, p.2.g = q.2.g → p = q
  | [], _, p, hp, _, _, _ => by simp at hp
  | r :: L, hd, p, hp, q, hq, e => by
    simp only [allB, List.flatMap_cons] at hd
    rw [List.nodup_append] at hd
    have far : ∀ y ∈ L, y.2.g ≠ r.2.g := fun y hy h => hd.2.2 r.2.g (by simp [blks]) y.2.g (List.mem_flatMap.2 ⟨y, hy, by simp [blks]⟩) h.symm
    rcases List.mem_cons.1 hp with hp | hp
    · rcases List.mem_cons.1 hq with hq | hq
      · rw [hp, hq]
      · exact absurd (by rw [← e, hp]) (far q hq)
    · rcases List.mem_cons.1 hq with hq | hq
      · exact absurd (by rw [e, hq]) (far p hp)
      · exact block_inj hd.2.1 p hp q hq e
theorem nodup_map {α β γ : Type} {f : α → β} {g : α → γ} : ∀ {l : List α}, (l.map f).Nodup → (∀ p ∈ l, ∀ q ∈ l, g p = g q → f p = f q) → (l.map g).Nodup
  | [], _, _ => by simp
  | a :: l, h, hi => by
    rw [List.map_cons, List.nodup_cons] at h ⊢
    refine ⟨fun hm => ?_, nodup_map h.2 fun p hp q hq => hi p (List.mem_cons_of_mem _ hp) q (List.mem_cons_of_mem _ hq)⟩
    obtain ⟨b, hb, e⟩ := List.mem_map.1 hm
    exact h.1 (List.mem_map.2 ⟨b, hb, hi b (List.mem_cons_of_mem _ hb) a (List.mem_cons_self ..) e⟩)
/-- The way up, and where each lies. -/
def ups (L : List NS) (f : F) (id : Int) : List NS := (chain f 0 id).map fun e => (e, slotOf L e.id)
theorem links_split : ∀ {l : List Nd} {q : Int} {pre : List Nd} {e : Nd} {rest : List Nd}, links l q → l = pre ++ e :: rest → e.par = (match rest with | [] => q | e' :: _ => e'.id)
  | _, _, [], _, [], h, rfl => h
  | _, _, [], _, _ :: _, h, rfl => h.1
  | _, _, [_], _, _, h, rfl => links_split (pre := []) h.2 rfl
  | _, _, _ :: b :: pre, _, _, h, rfl => links_split (pre := b :: pre) h.2 rfl
theorem TreeIn.slot (h : TreeIn B tb mb f nx L w) {id : Int} (hi : id ∈ ids f) : N.look (idg L) id = some (slotOf L id).g := by
  rcases h.find id with ⟨h1, _⟩ | ⟨e, s, h1, _, rfl, _, h5⟩
  · exact absurd hi h1
  · rw [h5, slot_of h.idl h1]
/-- The loop over all from a node up. -/
theorem up_all (h : Hid (TreeIn B tb mb f nx L w)) (hf : Hid (Fine f)) (id : Int) (hw : wfI id) (b1 b2 n : Nat) (w' : World) :
    Y.Gives Fence.wide n Tryd.prog 85 #[.pointer (some ⟨b1, 0, none⟩), .pointer (some ⟨b2, 0, none⟩)] encU (InvU B tb mb f nx L b1 b2 id) (ups L f id) w' := by
  have h0 := h.out
  have hf0 := hf.out
  have hsub : ∀ p ∈ ups L f id, p ∈ L := fun p hp => by
    obtain ⟨e, he, rfl⟩ := List.mem_map.1 hp
    exact h0.ent e (chain_mem f 0 id e he)
  refine up_gives (hid hsub) (hid (nodup_map (f := fun p : NS => p.1.id) ?_ fun p hp q hq e => by rw [block_inj (List.nodup_cons.1 h0.graph.nd).2 p (hsub p hp) q (hsub q hq) e])) (hid fun W m hT => ?_) (hid fun pre p rest e W m hT => ?_) n w'
  · rw [ups, List.map_map]
    exact chain_nodup f 0 id hf0.nd
  · rw [get (hT.graph.map.kept (w' := W.drewN m) rfl) hw]
    by_cases hi : id ∈ ids f
    · obtain ⟨e, r, h1, h2⟩ := chain_head f 0 id hi
      rw [h0.slot hi, ups, h1, List.map_cons, headA_cons, h2]
      rfl
    · rcases h0.find id with ⟨_, h1⟩ | ⟨_, _, _, _, _, h1, _⟩
      · rw [h1, ups, chain_out f 0 id hi]
        rfl
      · exact absurd h1 hi
  · obtain ⟨cp, cr, h1, rfl, h3⟩ := List.map_eq_append_iff.1 e
    obtain ⟨e0, r0, rfl, rfl, rfl⟩ := List.map_eq_cons_iff.1 h3
    have hl := links_split (chain_links f 0 id) h1
    have hw2 : wfI e0.par := by
      rw [hl]
      cases r0 with
      | nil => exact (by rfl : wfI 0)
      | cons e1 r1 =>
        refine hf0.wf _ ?_
        refine chain_sub f 0 id _ (List.mem_map.2 ⟨e1, ?_, rfl⟩)
        rw [h1]; simp
    rw [get (hT.graph.map.kept (w' := W.drewN m) rfl) hw2, hl]
    cases r0 with
    | nil =>
      rcases h0.find 0 with ⟨_, h5⟩ | ⟨_, _, _, _, _, h5, _⟩
      · simp only [h5]; rfl
      · exact absurd h5 hf0.zero
    | cons e1 r1 =>
      have hi : e1.id ∈ ids f := chain_sub f 0 id _ (List.mem_map.2 ⟨e1, by rw [h1]; simp, rfl⟩)
      simp only [h0.slot hi, List.map_cons, headA_cons]
      rfl
end
end N
end Go.Proofs.YtidccohjehegjaaDoor
namespace Go.Proofs.YtidccohjehegjaaDoor
open Go.RowKit Go.Shelf
attribute [local go_sem] Oper.semAt_some
namespace N
open T
section
variable {B tb mb : Nat} {f : F} {nx : Int} {L : List NS} {w : World}
/-- Between two rounds of kidLevel. -/
def IKl (tb : Nat) (id : Int) (w : World) (pre : List NS) (W : World) : Prop :=
  (Boxed W w.heap.size 3 (.int .i64 (pre.length : Int)) ∧ Boxed W (w.heap.size + 1) 23 (.pointer (some ⟨tb, 0, none⟩)) ∧ Boxed W (w.heap.size + 1 + 1) 3 (.int .i64 id)) ∧ Below w.heap.size w W
theorem IKl.own {tb : Nat} {id : Int} {w : World} {B : Nat} (hB : w.heap.size ≤ B) : OwnFrom B (IKl tb id w) :=
  OwnFrom.and (OwnFrom.and (Own.from (boxed_own _ _ (fun pre : List NS => Value.int .i64 (pre.length : Int))) _) (OwnFrom.and (Own.from (boxed_own _ _ fun _ => Value.pointer (some ⟨tb, 0, none⟩)) _) (Own.from (boxed_own _ _ fun _ => Value.int .i64 id) _))) (ownFrom_below (Nat.le_refl _) hB)
theorem ups_len (L : List NS) (f : F) (id : Int) : (ups L f id).length = (chain f 0 id).length := by rw [ups, List.length_map]
theorem chain_len : ∀ (f : F) (q d : Int), (chain f q d).length ≤ (ids f).length
  | none, _, _ => by simp [chain]
  | some ⟨i, x, k, s⟩, q, d => by
    have h1 := chain_len k i d
    have h2 := chain_len s q d
    rw [chain, ids, List.length_cons, List.length_append]
    split
    · simp
    · split
      · rw [List.length_append]; simp; omega
      · omega
set_option maxRecDepth 100000 in
set_option maxHeartbeats 2000000 in
theorem kidLevel_any (h : Hid (TreeIn B tb mb f nx L w)) (hf : Hid (Fine f)) (id : Int) (hr : wfI id) :
    Calls Tryd.prog 51 #[.pointer (some ⟨tb, 0, none⟩), .int .i64 id] w fun e w' => e = .returned (.int .i64 ((chain f 0 id).length : Int)) ∧ Below w.heap.size w w' := by
  have W1 := (((Below.refl w.heap.size w).alloc (Nat.le_refl _) (.cells #[.int .i64 0] 3)).alloc (by simp) (.cells #[.pointer (some ⟨tb, 0, none⟩)] 23)).alloc (by simp; omega) (.cells #[.int .i64 id] 3)
  have hbx : Boxed (((w.alloc (.cells #[.int .i64 0] 3)).alloc (.cells #[.pointer (some ⟨tb, 0, none⟩)] 23)).alloc (.cells #[.int .i64 id] 3)) w.heap.size 3 (.int .i64 0) := ((Boxed.new w _ _).alloc _).alloc _
  have hb1 : Boxed (((w.alloc (.cells #[.int .i64 0] 3)).alloc (.cells #[.pointer (some ⟨tb, 0, none⟩)] 23)).alloc (.cells #[.int .i64 id] 3)) (w.heap.size + 1) 23 (.pointer (some ⟨tb, 0, none⟩)) := by
    have := (Boxed.new (w.alloc (.cells #[.int .i64 0] 3)) 23 (.pointer (some ⟨tb, 0, none⟩))).alloc (.cells #[.int .i64 id] 3)
    rw [World.size_alloc] at this
    exact this
  have hb2 : Boxed (((w.alloc (.cells #[.int .i64 0] 3)).alloc (.cells #[.pointer (some ⟨tb, 0, none⟩)] 23)).alloc (.cells #[.int .i64 id] 3)) (w.heap.size + 1 + 1) 3 (.int .i64 id) := by
    have := Boxed.new ((w.alloc (.cells #[.int .i64 0] 3)).alloc (.cells #[.pointer (some ⟨tb, 0, none⟩)] 23)) 3 (.int .i64 id)
    rw [World.size_alloc, World.size_alloc] at this
    exact this
  refine (callsIn_wide (n := 3)).1 ?_
  refine callsIn_of_wp_marks Tryd.func51 rfl trivial ?_ rfl
  simp only [Tryd.ntmps51, List.size_toArray, List.length_cons, List.length_nil, Nat.reduceAdd, Nat.reduceSub, Array.replicate_succ, Array.replicate_zero, List.push_toArray, List.append_toArray, List.nil_append, List.cons_append]
  gi_wp2_with (refine ⟨trivial, (callsIn_wide.2 (upward_any _ _)).mono ?_⟩; rintro e w' ⟨rfl, rfl⟩)
  obtain ⟨W0, hW0⟩ : ∃ W0, ((w.alloc (.cells #[.int .i64 0] 3)).alloc (.cells #[.pointer (some ⟨tb, 0, none⟩)] 23)).alloc (.cells #[.int .i64 id] 3) = W0 := ⟨_, rfl⟩
  have hs0 : W0.heap.size = w.heap.size + 3 := by rw [← hW0]; simp
  rw [hW0] at W1 hbx hb1 hb2 ⊢
  have hlen : (ups L f id).length ≤ 100000 := by
    have h1 := chain_len f 0 id
    have h2 := hf.out.len
    rw [ups_len]
    omega
  refine Y.range_law rfl (by omega) (gf := 85) (lb := #[.pointer (some ⟨w.heap.size + 1, 0, none⟩), .pointer (some ⟨w.heap.size + 1 + 1, 0, none⟩)]) rfl trivial (enters_of Tryd.func85 (by kernel_rfl) rfl) (up_all h hf id hr (w.heap.size + 1) (w.heap.size + 1 + 1) (3 - 1) W0) (Below.refl _ _) (fun _ => rfl)
    (IKl tb id w) (fun _ _ _ => False) (IKl.own (by omega)) (fun _ _ _ _ _ hs _ _ => hs) (fun pre A hi => ⟨h.out.below hi.2, hi.1.2.1.cell, hi.1.2.2.cell⟩)
    ⟨⟨hbx, hb1, hb2⟩, W1⟩
    (fun x a' W => a' = { tmps := #[.pointer (some ⟨tb, 0, none⟩), .int .i64 id, undef, undef, .int .i64 0, .pointer (some ⟨w.heap.size, 0, none⟩), .pointer (some ⟨tb, 0, none⟩), .int .i64 id, .func (.func 85) #[] #[.pointer (some ⟨w.heap.size + 1, 0, none⟩), .pointer (some ⟨w.heap.size + 1 + 1, 0, none⟩)], .pointer (some ⟨x.2.g, 0, none⟩), undef, undef, undef], defers := [] })
    (fun x a' _ _ _ _ hs _ _ => hs) ?assign ?body ?done ?stop
  case assign =>
    intro l pre x W K hi hK
    dsimp only [encU]
    gi_wp2
    refine hK _ _ ((KeepsOthers.refl _).from _) hi ?_
    go_simp
  case body =>
    rintro l pre x a' W hl hrr ⟨⟨hv, i1, i2⟩, hbel⟩ rfl hp
    have e1 := hv.cell
    have e2 := hv.frozen
    have hpl : pre.length + 1 ≤ 100000 := by have := hp.length_le; simp at this; omega
    gi_wp2
    refine ⟨(KeepsOthers.setCell W ⟨w.heap.size, 0, none⟩ _).from _, ⟨?_, i1.other (by omega) _, i2.other (by omega) _⟩, hbel.trans ((Below.refl w.heap.size W).setCell (p := ⟨w.heap.size, 0, none⟩) (Nat.le_refl _) _)⟩
    rw [List.length_append, List.length_cons, List.length_nil, Int.natCast_add]
    exact hv.set _
  case done =>
    rintro D W hD ⟨⟨hv, i1, i2⟩, hbel⟩ hK
    have hvc := hv.cell
    gi_wp2
    refine ⟨by simp, .inl ⟨_, _, rfl, run_takeDeferred hK, ?_⟩⟩
    refine ⟨_, results_tmp rfl _ _ _, ?_, hbel.trans (belowK_b (w := w) (Nat.le_refl _) W D _ _ (by omega) hK rfl rfl)⟩
    rw [ups_len]
    rfl
  case stop =>
    rintro D c pre W _ _ hx _
    exact hx.elim
end
end N
end Go.Proofs.YtidccohjehegjaaDoor
namespace Go.Proofs.YtidccohjehegjaaDoor
open Go.RowKit Go.Shelf
attribute [local go_sem] Oper.semAt_some
namespace N
open T
section
variable {B tb mb : Nat} {f : F} {nx : Int} {L : List NS} {w : World}
/-- Between two rounds of within. -/
def IWi (tb : Nat) (id o : Int) (w : World) (pre : List NS) (W : World) : Prop :=
  ((∀ p ∈ pre, p.1.id ≠ o) ∧ Boxed W w.heap.size 3 (.int .i64 o) ∧ Boxed W (w.heap.size + 1) 4 (.bool false) ∧ Boxed W (w.heap.size + 1 + 1) 23 (.pointer (some ⟨tb, 0, none⟩)) ∧ Boxed W (w.heap.size + 1 + 1 + 1) 3 (.int .i64 id)) ∧ Below w.heap.size w W
/-- A round of within has left. -/
def XWi (o : Int) (w : World) (c : Code) (pre : List NS) (W : World) : Prop :=
  ((c = .ret ∧ ∃ p ∈ pre, p.1.id = o) ∧ Boxed W (w.heap.size + 1) 4 (.bool true)) ∧ Below w.heap.size w W
theorem IWi.own {tb : Nat} {id o : Int} {w : World} {B : Nat} (hB : w.heap.size ≤ B) : OwnFrom B (IWi tb id o w) :=
  OwnFrom.and (OwnFrom.and (ownFrom_pure _ _) (OwnFrom.and (Own.from (boxed_own _ _ fun _ => Value.int .i64 o) _) (OwnFrom.and (Own.from (boxed_own _ _ fun _ => Value.bool false) _) (OwnFrom.and (Own.from (boxed_own _ _ fun _ => Value.pointer (some ⟨tb, 0, none⟩)) _) (Own.from (boxed_own _ _ fun _ => Value.int .i64 id) _))))) (ownFrom_below (Nat.le_refl _) hB)
theorem XWi.own {o : Int} {w : World} {B : Nat} (hB : w.heap.size ≤ B) (c : Code) : OwnFrom B (XWi o w c) :=
  OwnFrom.and (OwnFrom.and (ownFrom_pure _ _) (Own.from (boxed_own _ _ fun _ => Value.bool true) _)) (ownFrom_below (Nat.le_refl _) hB)
theorem ups_in (L : List NS) (f : F) (id o : Int) : (∃ p ∈ ups L f id, p.1.id = o) ↔ o ∈ (chain f 0 id).map (·.id) := by
  simp only [ups, List.mem_map]
  exact ⟨fun ⟨_, ⟨e, he, h⟩, h2⟩ => ⟨e, he, by rw [← h2, ← h]⟩, fun ⟨e, he, h⟩ => ⟨_, ⟨e, he, rfl⟩, h⟩⟩
theorem boxes4 (w : World) (t0 t1 t2 t3 : TypeId) (v0 v1 v2 v3 : Value) {W : World} (h : (((w.alloc (.cells #[v0] t0)).alloc (.cells #[v1] t1)).alloc (.cells #[v2] t2)).alloc (.cells #[v3] t3) = W) :
    Boxed W w.heap.size t0 v0 ∧ Boxed W (w.heap.size + 1) t1 v1 ∧ Boxed W (w.heap.size + 1 + 1) t2 v2 ∧ Boxed W (w.heap.size + 1 + 1 + 1) t3 v3 ∧ W.heap.size = w.heap.size + 4 ∧ Below w.heap.size w W := by
  subst h
  refine ⟨(((Boxed.new w _ _).alloc _).alloc _).alloc _, ?_, ?_, ?_, by simp, ((((Below.refl _ w).alloc (Nat.le_refl _) _).alloc (by simp) _).alloc (by simp; omega) _).alloc (by simp; omega) _⟩
  · have := ((Boxed.new (w.alloc (.cells #[v0] t0)) t1 v1).alloc (.cells #[v2] t2)).alloc (.cells #[v3] t3)
    rw [World.size_alloc] at this
    exact this
  · have := (Boxed.new ((w.alloc (.cells #[v0] t0)).alloc (.cells #[v1] t1)) t2 v2).alloc (.cells #[v3] t3)
    rw [World.size_alloc, World.size_alloc] at this
    exact this
  · have := Boxed.new (((w.alloc (.cells #[v0] t0)).alloc (.cells #[v1] t1)).alloc (.cells #[v2] t2)) t3 v3
    rw [World.size_alloc, World.size_alloc, World.size_alloc] at this
    exact this
set_option maxRecDepth 100000 in
set_option maxHeartbeats 2000000 in
theorem within_any (h : Hid (TreeIn B tb mb f nx L w)) (hf : Hid (Fine f)) (id o : Int) (hr : wfI id) :
    Calls Tryd.prog 54 #[.pointer (some ⟨tb, 0, none⟩), .int .i64 id, .int .i64 o] w fun e w' => e = .returned (.bool (decide (o ∈ (chain f 0 id).map (·.id)))) ∧ Below w.heap.size w w' := by
  refine (callsIn_wide (n := 3)).1 ?_
  refine callsIn_of_wp_marks Tryd.func54 rfl trivial ?_ rfl
  simp only [Tryd.ntmps54, List.size_toArray, List.length_cons, List.length_nil, Nat.reduceAdd, Nat.reduceSub, Array.replicate_succ, Array.replicate_zero, List.push_toArray, List.append_toArray, List.nil_append, List.cons_append]
  gi_wp2_with (refine ⟨trivial, (callsIn_wide.2 (upward_any _ _)).mono ?_⟩; rintro e w' ⟨rfl, rfl⟩)
  obtain ⟨W0, hW0⟩ : ∃ W0, (((w.alloc (.cells #[.int .i64 o] 3)).alloc (.cells #[.bool false] 4)).alloc (.cells #[.pointer (some ⟨tb, 0, none⟩)] 23)).alloc (.cells #[.int .i64 id] 3) = W0 := ⟨_, rfl⟩
  rw [hW0]
  obtain ⟨x0, x1, x2, x3, hs0, W1⟩ := boxes4 w _ _ _ _ _ _ _ _ hW0
  refine Y.range_law rfl (by omega) (gf := 85) (lb := #[.pointer (some ⟨w.heap.size + 1 + 1, 0, none⟩), .pointer (some ⟨w.heap.size + 1 + 1 + 1, 0, none⟩)]) rfl trivial (enters_of Tryd.func85 (by kernel_rfl) rfl) (up_all h hf id hr (w.heap.size + 1 + 1) (w.heap.size + 1 + 1 + 1) (3 - 1) W0) (Below.refl _ _) (fun _ => rfl)
    (IWi tb id o w) (XWi o w) (IWi.own (by omega)) (fun c => XWi.own (by omega) c) (fun pre A hi => ⟨h.out.below hi.2, hi.1.2.2.2.1.cell, hi.1.2.2.2.2.cell⟩)
    ⟨⟨by simp, x0, x1, x2, x3⟩, W1⟩
    (fun x a' W => a' = { tmps := #[.pointer (some ⟨tb, 0, none⟩), .int .i64 id, .int .i64 o, undef, undef, .pointer (some ⟨w.heap.size, 0, none⟩), .pointer (some ⟨w.heap.size + 1, 0, none⟩), .pointer (some ⟨x.2.g, 0, none⟩), .pointer (some ⟨tb, 0, none⟩), .int .i64 id, .func (.func 85) #[] #[.pointer (some ⟨w.heap.size + 1 + 1, 0, none⟩), .pointer (some ⟨w.heap.size + 1 + 1 + 1, 0, none⟩)], .pointer (some ⟨x.2.g, 0, none⟩), undef, undef, undef, undef, undef, undef, undef], defers := [] })
    (fun x a' _ _ _ _ hs _ _ => hs) ?assign ?body ?done ?stop
  case assign =>
    intro l pre x W K hi hK
    dsimp only [encU]
    gi_wp2
    refine hK _ _ ((KeepsOthers.refl _).from _) hi ?_
    go_simp
  case body =>
    rintro l pre x a' W hl hrr ⟨⟨hne, i0, i1, i2, i3⟩, hbel⟩ rfl hp
    have hxm : x ∈ L := by
      obtain ⟨e, he, rfl⟩ := List.mem_map.1 (hp.subset (by simp : x ∈ pre ++ [x]))
      exact h.out.ent e (chain_mem f 0 id e he)
    obtain ⟨d0, _⟩ := ((h.out.below hbel).graph.nodes _ hxm).cells
    have e0 := i0.cell
    have e1 := i1.cell
    have e2 := i1.frozen
    have S0 : Hid (W.drew.cell? ⟨w.heap.size, 0, none⟩ = some (.int .i64 o) ∧ W.drew.cell? ⟨x.2.g, 0, none⟩ = some (.int .i64 x.1.id)) := hid ⟨e0, d0⟩
    gi_wp2_with fail
    refine till_round (z := 6) (S := fun w' => w'.cell? ⟨w.heap.size, 0, none⟩ = some (.int .i64 o) ∧ w'.cell? ⟨x.2.g, 0, none⟩ = some (.int .i64 x.1.id)) (by kernel_rfl) (by kernel_rfl) ?_
    refine till_free (i := 0) (v := ?_) rfl (by kernel_rfl) (by kernel_rfl) (by kernel_rfl) (by kernel_rfl) (fun _ _ _ h => h) (Or.inl ⟨by rfl, ?_⟩) S0.out ?_
    rotate_left
    · intro w' hs; go_simp; (try with_reducible rfl)
    refine till_free (i := 1) (v := ?_) rfl (by kernel_rfl) (by kernel_rfl) (by kernel_rfl) (by kernel_rfl) (fun _ _ _ h => h) (Or.inl ⟨by rfl, ?_⟩) S0.out ?_
    rotate_left
    · intro w' hs; go_simp; (try with_reducible rfl)
    refine till_free (i := 2) (v := ?_) rfl (by kernel_rfl) (by kernel_rfl) (by kernel_rfl) (by kernel_rfl) (fun _ _ _ h => h) (Or.inl ⟨by rfl, ?_⟩) S0.out ?_
    rotate_left
    · intro w' hs; go_simp; (try with_reducible rfl)
    refine till_free (i := 3) (v := ?_) rfl (by kernel_rfl) (by kernel_rfl) (by kernel_rfl) (by kernel_rfl) (fun _ _ _ h => h) (Or.inl ⟨by rfl, ?_⟩) S0.out ?_
    rotate_left
    · intro w' hs; go_simp; (try with_reducible rfl)
    refine till_take (i := 4) (v := ?_) rfl (by kernel_rfl) (by kernel_rfl) (by kernel_rfl) (by kernel_rfl) (fun _ _ _ h => h) (Or.inl ⟨by rfl, ?_⟩) S0.out ?_
    rotate_left
    · intro w' hs; obtain ⟨s1, s2⟩ := hs; go_simp; (try with_reducible rfl)
    refine till_take (i := 5) (v := ?_) rfl (by kernel_rfl) (by kernel_rfl) (by kernel_rfl) (by kernel_rfl) (fun _ _ _ h => h) (Or.inl ⟨by rfl, ?_⟩) S0.out ?_
    rotate_left
    · intro w' hs; obtain ⟨s1, s2⟩ := hs; go_simp; (try with_reducible rfl)
    refine till_value (i := 6) (v := .bool (x.1.id == o)) (w' := W.drew) (by kernel_rfl) rfl rfl ?_ S0.out ?_
    · go_simp
    refine till_done (by kernel_rfl) ?_ _
    rename_i K2 hK2
    have e1' : W.drew.cell? ⟨w.heap.size + 1, 0, none⟩ = some (.bool false) := e1
    have e2' : W.drew.frozen? ⟨w.heap.size + 1, 0, none⟩ = false := e2
    refine hK2 _ _ ?_
    go_simp
    by_cases hx : x.1.id = o
    · have hx' : (x.1.id == o) = true := by simpa using hx
      gi_wp2
      refine ⟨((KeepsOthers.drew W).trans (KeepsOthers.setCell W.drew ⟨w.heap.size + 1, 0, none⟩ _)).from _, ⟨⟨rfl, x, by simp, hx⟩, (show Boxed W.drew (w.heap.size + 1) 4 (.bool false) from i1).set _⟩, hbel.trans ((Below.refl w.heap.size W).drew.setCell (p := ⟨w.heap.size + 1, 0, none⟩) (by simp) _)⟩
    · have hx' : (x.1.id == o) = false := by simpa using hx
      gi_wp2
      refine ⟨(KeepsOthers.drew W).from _, ⟨?_, i0, i1, i2, i3⟩, hbel.trans (Below.refl w.heap.size W).drew⟩
      intro p hp
      rcases List.mem_append.1 hp with hp | hp
      · exact hne p hp
      · simp only [List.mem_cons, List.not_mem_nil, or_false] at hp
        rw [hp]
        exact hx
  case done =>
    rintro D W hD ⟨⟨hne, i0, i1, i2, i3⟩, hbel⟩ hK
    have e1 := i1.cell
    have e2 := i1.frozen
    gi_wp2
    have hK' := (KeepsOthers.setCell W ⟨w.heap.size + 1, 0, none⟩ (.bool false)).same D _ hK rfl
    refine ⟨by simp, .inl ⟨_, _, rfl, run_takeDeferred hK', ?_⟩⟩
    have hc5 := cell_kept (World.cell?_setCell_same' W ⟨w.heap.size + 1, 0, none⟩ (.bool false) (by rw [e1]; rfl)) (grownBy_putObj' _ D (.deferred none)) (fun r e => by cases e; exact ⟨_, hK', rfl⟩)
    refine ⟨.bool false, ?_, ?_, (hbel.setCell (p := ⟨w.heap.size + 1, 0, none⟩) (by simp) _).trans (belowK_b (w := w) (Nat.le_refl _) _ D _ _ (by omega) hK' rfl rfl)⟩
    · simp [results, Tryd.f54, go_sem, hc5]
    · rw [decide_eq_false]
      rw [← ups_in L]
      rintro ⟨p, hp, e⟩
      exact hne p hp e
  case stop =>
    rintro D c pre W hD hpre ⟨⟨⟨rfl, p, hp, hpo⟩, i1⟩, hbel⟩ hK
    have e1 := i1.cell
    gi_wp2
    refine ⟨by simp, .inl ⟨_, _, rfl, run_takeDeferred hK, ?_⟩⟩
    have hc5 := cell_kept e1 (grownBy_putObj' _ D (.deferred none)) (fun r e => by cases e; exact ⟨_, hK, rfl⟩)
    refine ⟨.bool true, ?_, ?_, hbel.trans (belowK_b (w := w) (Nat.le_refl _) W D _ _ (by omega) hK rfl rfl)⟩
    · simp [results, Tryd.f54, go_sem, hc5]
    · rw [decide_eq_true]
      rw [← ups_in L]
      exact ⟨p, hpre.subset hp, hpo⟩
end
end N
end Go.Proofs.YtidccohjehegjaaDoor
