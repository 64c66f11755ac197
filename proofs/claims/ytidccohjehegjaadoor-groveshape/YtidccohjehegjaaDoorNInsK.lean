/- The library's slices.Insert at a row of numbers: whatever the row's room. -/
import Derived.Test.YtidccohjehegjaaDoorNCutK
namespace Go.Proofs.YtidccohjehegjaaDoor
open Go.RowKit Go.Shelf
namespace N
open T
/-- Values laid over an array from a place on. -/
def putA : Array Value → Nat → List Value → Array Value
  | c, _, [] => c
  | c, o, v :: r => putA (c.setIfInBounds o v) (o + 1) r
theorem putA_size : ∀ (vs : List Value) (c : Array Value) (o : Nat), (putA c o vs).size = c.size
  | [], _, _ => rfl
  | v :: r, c, o => by rw [putA, putA_size r, Array.size_setIfInBounds]
theorem putA_list : ∀ (vs : List Value) (c : Array Value) (o : Nat), o + vs.length ≤ c.size → (putA c o vs).toList = c.toList.take o ++ (vs ++ c.toList.drop (o + vs.length))
  | [], c, o, _ => by rw [putA]; simp
  | v :: r, c, o, h => by
    rw [List.length_cons] at h
    rw [putA, putA_list r _ (o + 1) (by rw [Array.size_setIfInBounds]; omega), Array.toList_setIfInBounds]
    have h1 : (c.toList.set o v).take (o + 1) = c.toList.take o ++ [v] := by
      rw [List.take_add_one, List.take_set_of_le (Nat.le_refl _), List.getElem?_set_self (by rw [Array.length_toList]; omega)]
      rfl
    have h2 : (c.toList.set o v).drop (o + 1 + r.length) = c.toList.drop (o + (v :: r).length) := by
      rw [List.drop_set_of_lt (by omega), List.length_cons]
      congr 1
      omega
    rw [h1, h2]
    simp
theorem heap_setCells (b : Nat) (t : TypeId) : ∀ (vs : List Value) (o : Nat) (w : World) (c : Array Value), w.heap[b]? = some (.cells c t (0, 0)) → (w.setCells b o vs).heap[b]? = some (.cells (putA c o vs) t (0, 0))
  | [], _, _, _, h => h
  | v :: r, o, w, c, h => by
    rw [World.setCells, putA]
    refine heap_setCells b t r (o + 1) _ _ ?_
    exact heap_setCell_same _ _ _ _ _ _ h
theorem setCells_grown (b : Nat) : ∀ (vs : List Value) (o : Nat) (w : World), w.grownBy (w.setCells b o vs) (some b)
  | [], _, w => ⟨rfl, rfl, rfl, Nat.le_refl _, fun _ _ _ => rfl⟩
  | v :: r, o, w => by
    rw [World.setCells]
    have h1 : w.grownBy (w.setCell ⟨b, o, none⟩ v) (some b) := ⟨rfl, rfl, rfl, (KeepsWalks.setCell w _ v).size, fun k _ hk => Below.heap_setCell _ _ _ k (fun e => hk (by rw [e]))⟩
    have h2 := setCells_grown b r (o + 1) (w.setCell ⟨b, o, none⟩ v)
    exact ⟨h2.os.trans h1.os, h2.tape.trans h1.tape, h2.output.trans h1.output, Nat.le_trans h1.size h2.size, fun k hk hne => (h2.block k (Nat.lt_of_lt_of_le hk h1.size) hne).trans (h1.block k hk hne)⟩
theorem insL_len (l : List Int) (a : Nat) (g : List Int) (h : a ≤ l.length) : (insL l a g).length = l.length + g.length := by
  rw [insL, List.length_append, List.length_append, List.length_take, List.length_drop]; omega
theorem encK_ins (l : List Int) (a : Nat) (g : List Int) : encK (insL l a g) = (encK l).take a ++ (encK g ++ (encK l).drop a) := by
  simp [encK, insL, List.map_append, List.map_take, List.map_drop]
theorem cells_take {w : World} {b n : Nat} {cur : Array Value} {t : TypeId} {cs : List Value} (h : w.heap[b]? = some (.cells cur t (0, 0))) (hc : cur.toList.take n = cs) : ∀ j v, cs[j]? = some v → w.cell? ⟨b, 0 + j, none⟩ = some v := by
  intro j v hj
  rw [Nat.zero_add, Lib.cell_of_heap h, ← Array.getElem?_toList]
  rw [← hc, List.getElem?_take] at hj
  split at hj
  · exact hj
  · cases hj
theorem take_mid (p q r : List Value) : (p ++ (q ++ r)).take (p.length + q.length) = p ++ q := by
  rw [← List.append_assoc]
  exact List.take_left' (by rw [List.length_append])
theorem encK_one (l : List Int) : ∀ v ∈ encK l, v.oneCell' = true := by
  intro v hv
  obtain ⟨x, _, rfl⟩ := List.mem_map.1 hv
  rfl
theorem encK_len (l : List Int) : (encK l).length = l.length := by rw [encK, List.length_map]
set_option maxHeartbeats 1000000 in
theorem sins_any {B : Nat} {w : World} {ka : Option Addr} {n kc i : Nat} {l vs : List Int} {V : Value} {base : Nat} (h : w.ownsRow B 3 1 (.slice ka n kc) n (encK l)) (hi : i ≤ n) (hvs : vs ≠ []) (hV : w.ownsRow base 3 1 V vs.length (encK vs)) (hne : ∀ q, V.ownBlock = some q → (Value.slice ka n kc).ownBlock ≠ some q) (hbig : n + vs.length ≤ 1000000) (hB : B ≤ w.heap.size) :
    Calls Tryd.prog 37 #[.slice ka n kc, .int .i64 (i : Int), V] w fun e w' => ∃ g cap, e = .returned (.slice (some ⟨g, 0, none⟩) (n + vs.length) cap) ∧ w'.ownsRow B 3 1 (.slice (some ⟨g, 0, none⟩) (n + vs.length) cap) (n + vs.length) (encK (insL l i vs)) ∧ w.grownBy w' (Value.slice ka n kc).ownBlock ∧ ((Value.slice ka n kc).ownBlock = some g ∨ g = w.heap.size) := by
  have hm : 0 < vs.length := List.length_pos_iff.2 hvs
  have hln : l.length = n := by have := h.1; rw [encK_len] at this; omega
  have hil : (encK (insL l i vs)).length = n + vs.length := by rw [encK_len, insL_len _ _ _ (by omega)]; omega
  obtain ⟨vb, vcap, vcur, rfl, _, v2, v3, v4, v5, v6⟩ : ∃ g cap cur, V = .slice (some ⟨g, 0, none⟩) vs.length cap ∧ base ≤ g ∧ w.heap[g]? = some (.cells cur 3 (0, 0)) ∧ vs.length ≤ cap ∧ cap ≤ maxLen ∧ cur.size = cap * 1 ∧ cur.toList.take (vs.length * 1) = encK vs := by
    rcases hV.2 with ⟨_, q⟩ | q
    · omega
    · exact q
  rw [Nat.mul_one] at v5 v6
  have hvc := cells_take v2 v6
  have h1v := encK_one vs
  have hvl := encK_len vs
  have fin : ∀ (w' : World) (g cap : Nat) (cur : Array Value), w'.heap[g]? = some (.cells cur 3 (0, 0)) → B ≤ g → n + vs.length ≤ cap → cap ≤ maxLen → cur.size = cap → cur.toList.take (n + vs.length) = encK (insL l i vs) → w'.ownsRow B 3 1 (.slice (some ⟨g, 0, none⟩) (n + vs.length) cap) (n + vs.length) (encK (insL l i vs)) := fun w' g cap cur q1 q2 q3 q4 q5 q6 =>
    ⟨by rw [hil, Nat.mul_one], Or.inr ⟨g, cap, cur, rfl, q2, q1, q3, q4, by rw [Nat.mul_one]; exact q5, by rw [Nat.mul_one]; exact q6⟩⟩
  have hlen63 : n + vs.length ≤ maxLen := by unfold maxLen; omega
  rcases h.2 with ⟨q, hn0⟩ | ⟨b, cap, cur, q, hbB, k2, k3, k4, k5, k6⟩
  · -- nothing there
    simp only [Value.slice.injEq] at q
    obtain ⟨rfl, -, rfl⟩ := q
    subst hn0
    obtain rfl : i = 0 := by omega
    obtain rfl : l = [] := List.length_eq_zero_iff.1 hln
    have HC := Any2.slices_Insert_int_end_grow laysIn none 0 0 vb 0 vs.length vcap [] (encK vs) w hm (by omega) (by omega) (by omega) rfl hvl (fun _ => rfl) (fun a e => by cases e) hvc h1v
    rw [show renIn.t 3 = 3 from rfl] at HC
    refine Calls.mono HC ?_
    rintro e w' ⟨rfl, rfl⟩
    have hA := heap_alloc_new w.drew (.cells (([] ++ encK vs).toArray ++ Builtin.zeroCells (Value.int .i64 0).cells (grownCap w (0 + vs.length) 0 3 - (0 + vs.length))) 3)
    have hcap := grownCap_ge w (0 + vs.length) 0 3
    refine ⟨_, _, rfl, fin _ _ _ _ hA hB hcap (grownCap_le_maxLen w _ _ _ hlen63) ?_ ?_, ?_, Or.inr rfl⟩
    · rw [Array.size_append, size_zeroCells]
      simp only [List.nil_append, List.size_toArray, hvl, Value.cells, List.length_cons, List.length_nil]
      omega
    · rw [Array.toList_append, List.nil_append, List.take_append_of_le_length (by simp [hvl]), List.take_of_length_le (by simp [hvl])]
      simp [insL]
    · exact ⟨rfl, rfl, rfl, by simp, fun k hk _ => Below.heap_alloc w.drew _ k hk⟩
  · simp only [Value.slice.injEq] at q
    obtain ⟨rfl, -, rfl⟩ := q
    rw [Nat.mul_one] at k5 k6
    have hcc := cells_take k2 k6
    have hnb : vb ≠ b := fun e => hne vb rfl (by rw [e]; rfl)
    have hbw : b < w.heap.size := lt_of_block k2
    have hsome : ∀ j, j < kc → (w.cell? ⟨b, 0 + j, none⟩).isSome = true := fun j hj => by
      rw [Nat.zero_add, Lib.cell_of_heap k2, Array.getElem?_eq_getElem (by omega)]
      rfl
    have hfz : ∀ j, w.frozen? ⟨b, j, none⟩ = false := fun j => Lib.frozen_of_heap k2 j
    have hcl := encK_len l
    rw [hln] at hcl
    have hcur : cur.toList.length = cur.size := Array.length_toList
    have hk63 : kc ≤ 9223372036854775807 := k4
    have hgr : ∀ (W : World) (o : Nat) (us : List Value), W.grownBy (W.setCells b o us) (some b) := fun W o us => setCells_grown b us o W
    by_cases hr : n + vs.length ≤ kc
    · by_cases hin : i = n
      · subst hin
        have HC := Any2.slices_Insert_int_end_room laysIn b 0 i kc vb 0 vs.length vcap (encK vs) w hm hr hk63 hvl (fun j hj => by have := hsome (i + j) (by omega); rwa [← Nat.add_assoc] at this) (fun j hj => hfz _) hvc h1v
        refine Calls.mono HC ?_
        rintro e w' ⟨rfl, rfl⟩
        rw [Nat.zero_add]
        refine ⟨_, _, rfl, fin _ _ _ _ (heap_setCells b _ (encK vs) i w cur k2) hbB hr k4 (by rw [putA_size]; exact k5) ?_, hgr _ _ _, Or.inl rfl⟩
        have eR : encK (insL l i vs) = encK l ++ encK vs := by rw [encK_ins, List.take_of_length_le (by omega), List.drop_eq_nil_of_le (by omega), List.append_nil]
        rw [putA_list _ _ _ (by omega), k6, eR]
        have e := take_mid (encK l) (encK vs) (cur.toList.drop (i + (encK vs).length))
        rw [hcl, hvl] at e
        rw [hvl]
        exact e
      · have hlt : i < n := by omega
        have HC := Any2.slices_Insert_int_shift laysIn b 0 n kc i vb 0 vs.length vcap (encK l) (encK vs) w hlt hm hr hk63 hnb hcl hvl hcc (fun j hj => hsome j (by omega)) (fun j hj => hfz _) hvc (encK_one l) h1v 3 3 vcur.size cur.size (by simp [World.shape?, v2]) (by simp [World.shape?, k2]) (by omega) (Lib.frozen_of_heap v2 0) (Lib.frozen_of_heap v2 _)
        refine Calls.mono HC ?_
        rintro e w' ⟨rfl, rfl⟩
        rw [Nat.zero_add, Nat.zero_add]
        have hd : ((encK l).drop i).length = n - i := by rw [List.length_drop, hcl]
        have q1 := heap_setCells b 3 ((encK l).drop i) (i + vs.length) w.drew cur k2
        have q2 := heap_setCells b 3 (encK vs) i _ _ q1
        refine ⟨_, _, rfl, fin _ _ _ _ q2 hbB hr k4 (by rw [putA_size, putA_size]; exact k5) ?_, ?_, Or.inl rfl⟩
        · rw [putA_list _ _ _ (by rw [putA_size]; omega), putA_list _ _ _ (by omega), encK_ins]
          have t1 : (cur.toList.take (i + vs.length) ++ ((encK l).drop i ++ cur.toList.drop (i + vs.length + ((encK l).drop i).length))).take i = (encK l).take i := by
            rw [List.take_append_of_le_length (by rw [List.length_take]; omega), List.take_take, Nat.min_eq_left (by omega), ← k6, List.take_take, Nat.min_eq_left (by omega)]
          have t2 : (cur.toList.take (i + vs.length) ++ ((encK l).drop i ++ cur.toList.drop (i + vs.length + ((encK l).drop i).length))).drop (i + (encK vs).length) = (encK l).drop i ++ cur.toList.drop (i + vs.length + ((encK l).drop i).length) := by
            rw [hvl]
            exact List.drop_left' (by rw [List.length_take]; omega)
          rw [t1, t2]
          have e := take_mid ((encK l).take i ++ encK vs) ((encK l).drop i) (cur.toList.drop (i + vs.length + ((encK l).drop i).length))
          rw [List.length_append, List.length_take, hcl, hvl, hd, Nat.min_eq_left (by omega), show i + vs.length + (n - i) = n + vs.length by omega, List.append_assoc, List.append_assoc] at e
          rw [hd, show i + vs.length + (n - i) = n + vs.length by omega]
          exact e
        · have g1 := hgr w.drew (i + vs.length) ((encK l).drop i)
          have g2 := hgr (w.drew.setCells b (i + vs.length) ((encK l).drop i)) i (encK vs)
          exact ⟨g2.os.trans g1.os, g2.tape.trans g1.tape, g2.output.trans g1.output, Nat.le_trans g1.size g2.size, fun k hk hne => (g2.block k (Nat.lt_of_lt_of_le hk g1.size) hne).trans (g1.block k hk hne)⟩
    · have hcap := grownCap_ge w (n + vs.length) kc 3
      have hcap2 := grownCap_le_maxLen w (n + vs.length) kc 3 hlen63
      by_cases hin : i = n
      · subst hin
        have HC := Any2.slices_Insert_int_end_grow laysIn (some ⟨b, 0, none⟩) i kc vb 0 vs.length vcap (encK l) (encK vs) w hm k3 (by omega) (by omega) hcl hvl (fun e => by cases e) (fun a e j v hj => by
          cases e
          rw [Addr.add_lit]
          exact hcc j v hj) hvc h1v
        rw [show renIn.t 3 = 3 from rfl] at HC
        refine Calls.mono HC ?_
        rintro e w' ⟨rfl, rfl⟩
        have hA := heap_alloc_new w.drew (.cells ((encK l ++ encK vs).toArray ++ Builtin.zeroCells (Value.int .i64 0).cells (grownCap w (i + vs.length) kc 3 - (i + vs.length))) 3)
        refine ⟨_, _, rfl, fin _ _ _ _ hA hB hcap hcap2 ?_ ?_, ?_, Or.inr rfl⟩
        · rw [Array.size_append, size_zeroCells]
          simp only [List.size_toArray, List.length_append, hvl, hcl, Value.cells, List.length_cons, List.length_nil]
          omega
        · rw [Array.toList_append, List.take_append_of_le_length (by simp [hvl, hcl]), List.take_of_length_le (by simp [hvl, hcl]), encK_ins, List.take_of_length_le (by omega), List.drop_eq_nil_of_le (by omega), List.append_nil]
        · exact ⟨rfl, rfl, rfl, by simp, fun k hk _ => Below.heap_alloc w.drew _ k hk⟩
      · have hlt : i < n := by omega
        have HC := Any2.slices_Insert_int_grow laysIn b 0 n kc i vb 0 vs.length vcap (encK l) (encK vs) w hlt hm k3 (by omega) (by omega) hcl hvl hcc hvc (encK_one l) h1v
        rw [show renIn.t 3 = 3 from rfl] at HC
        refine Calls.mono HC ?_
        rintro e w' ⟨rfl, rfl⟩
        have hd : ((encK l).drop i).length = n - i := by rw [List.length_drop, hcl]
        have ht : ((encK l).take i).length = i := by rw [List.length_take, hcl]; omega
        obtain ⟨c0, hc0⟩ : ∃ c0, ((encK l).take i).toArray ++ Builtin.zeroCells (Value.int .i64 0).cells (n + vs.length - i) ++ Builtin.zeroCells (Value.int .i64 0).cells (grownCap w (n + vs.length) kc 3 - (n + vs.length)) = c0 := ⟨_, rfl⟩
        have hs0 : c0.size = grownCap w (n + vs.length) kc 3 := by
          rw [← hc0, Array.size_append, Array.size_append, size_zeroCells, size_zeroCells]
          simp only [List.size_toArray, ht, Value.cells, List.length_cons, List.length_nil]
          omega
        have hl0 : c0.toList.take i = (encK l).take i := by
          rw [← hc0, Array.toList_append, Array.toList_append, List.append_assoc]
          exact List.take_left' (by simpa using ht)
        rw [hc0]
        have q0 := heap_alloc_new w (.cells c0 3)
        have q1 := heap_setCells w.heap.size 3 (encK vs) i (w.alloc (.cells c0 3)).drew c0 q0
        have q2 := heap_setCells w.heap.size 3 ((encK l).drop i) (i + vs.length) ((w.alloc (.cells c0 3)).drew.setCells w.heap.size i (encK vs)).drew _ q1
        refine ⟨_, _, rfl, fin _ _ _ _ q2 hB hcap hcap2 (by rw [putA_size, putA_size]; exact hs0) ?_, ?_, Or.inr rfl⟩
        · rw [putA_list _ _ _ (by rw [putA_size]; omega), putA_list _ _ _ (by omega), hl0, encK_ins]
          have t1 := take_mid ((encK l).take i) (encK vs) (c0.toList.drop (i + (encK vs).length))
          rw [ht, hvl] at t1
          rw [hvl, t1]
          have e := take_mid ((encK l).take i ++ encK vs) ((encK l).drop i) (((encK l).take i ++ (encK vs ++ c0.toList.drop (i + vs.length))).drop (i + vs.length + ((encK l).drop i).length))
          rw [List.length_append, ht, hvl, hd, show i + vs.length + (n - i) = n + vs.length by omega] at e
          rw [hd]
          rw [show i + vs.length + (n - i) = n + vs.length by omega]
          rw [e, List.append_assoc]
        · have g1 := setCells_grown w.heap.size (encK vs) i (w.alloc (.cells c0 3)).drew
          have g2 := setCells_grown w.heap.size ((encK l).drop i) (i + vs.length) ((w.alloc (.cells c0 3)).drew.setCells w.heap.size i (encK vs)).drew
          have hs1 : (w.alloc (.cells c0 3)).drew.heap.size = w.heap.size + 1 := by simp
          have z1 := g1.size
          refine ⟨g2.os.trans g1.os, g2.tape.trans g1.tape, g2.output.trans g1.output, ?_, fun k hk hne => ?_⟩
          · have := g2.size
            have z2 : ((w.alloc (.cells c0 3)).drew.setCells w.heap.size i (encK vs)).drew.heap.size = ((w.alloc (.cells c0 3)).drew.setCells w.heap.size i (encK vs)).heap.size := rfl
            omega
          · have z2 : ((w.alloc (.cells c0 3)).drew.setCells w.heap.size i (encK vs)).drew.heap.size = ((w.alloc (.cells c0 3)).drew.setCells w.heap.size i (encK vs)).heap.size := rfl
            rw [g2.block k (by omega) (fun e => by cases e; omega)]
            show ((w.alloc (.cells c0 3)).drew.setCells w.heap.size i (encK vs)).heap[k]? = _
            rw [g1.block k (by omega) (fun e => by cases e; omega)]
            exact Below.heap_alloc w _ k hk
end N
end Go.Proofs.YtidccohjehegjaaDoor
