/- The walk of grove's Load, whatever comes of it; Next. -/
import Derived.Test.YtidccohjehegjaaDoorNPlantedK
import Derived.Test.YtidccohjehegjaaDoorNTextK
import Derived.Test.YtidccohjehegjaaDoorK6
namespace Go.Proofs.YtidccohjehegjaaDoor
open Go.RowKit Go.Shelf
namespace N
open T
set_option maxRecDepth 100000 in
set_option maxHeartbeats 4000000 in
theorem build_any {w : World} (nx : Int) (V Vi : Value) (l : List IV) (il : List Int) (R : List Row) (g : F)
    (I : Hid (ItemsIn V l w)) (J : Hid (IntsIn Vi il w)) (hR : Hid (R = il.zip (l.map (·.1)))) (hlen : Hid (il.length = l.length)) (hn : Hid (l.length ≤ 100000)) (hg : Hid (rows g 0 = R)) (hs : Hid (stairs 0 0 R)) (hd : Hid ((ids g).Nodup)) (hp : Hid ((0 : Int) ∉ ids g))
    (hf : Hid (∀ i ∈ il, wfI i)) (hat : Hid (∀ x ∈ l, x.1.attrs.length ≤ 100000)) (ht : Hid ((tops g).length ≤ 1)) :
    Calls Tryd.prog 18 #[V, Vi, .int .i64 nx] w fun e w' => ∃ tb mb L, e = .returned (.pointer (some ⟨tb, 0, none⟩)) ∧ TreeIn w.heap.size tb mb g nx L w' ∧ Below w.heap.size w w' := by
  obtain ⟨ao, cap, rfl, hl, hc⟩ := I.out.1
  obtain ⟨ai, ci, rfl, hil, hci⟩ := J.out
  clear hc hci
  have hmm := @run_makeMap Tryd.prog
  go_enter Tryd.func18, Tryd.ntmps18
  go_wp2_with fail
  have hA1 := grow w (.map #[] 0)
  have hA2 := grow (w.alloc (.map #[] 0)) (.cells #[.map (some w.heap.size), .int .i64 0, .int .i64 nx] 64)
  have hN2 := heap_alloc_new (w.alloc (.map #[] 0)) (.cells #[.map (some w.heap.size), .int .i64 0, .int .i64 nx] 64)
  have hs1 : (w.alloc (.map #[] 0)).heap.size = w.heap.size + 1 := by simp
  have hM : MapIs ((w.alloc (.map #[] 0)).alloc (.cells #[.map (some w.heap.size), .int .i64 0, .int .i64 nx] 64)) w.heap.size [] := (made w).kept (hA2.block _ (by omega))
  have hX : Below w.heap.size w ((w.alloc (.map #[] 0)).alloc (.cells #[.map (some w.heap.size), .int .i64 0, .int .i64 nx] 64)) := hA1.trans (hA2.mono (by omega))
  rw [hs1] at hN2
  have hs2 : ((w.alloc (.map #[] 0)).alloc (.cells #[.map (some w.heap.size), .int .i64 0, .int .i64 nx] 64)).heap.size = w.heap.size + 2 := by simp
  generalize (w.alloc (.map #[] 0)).alloc (.cells #[.map (some w.heap.size), .int .i64 0, .int .i64 nx] 64) = X0 at hM hX hN2 hs2 ⊢
  have G0 : Hid (GraphIn w.heap.size w.heap.size [] X0) := hid ⟨by simp, by simp [allB], by simp [allB], hM⟩
  have J0 : IntsIn (.slice ai il.length ci) il X0 := by
    obtain ⟨a, c, h0, h1, h2⟩ := J.out
    refine ⟨a, c, h0, h1, fun hne => ?_⟩
    obtain ⟨q, o, h3, h4, h5⟩ := h2 hne
    exact ⟨q, o, h3, Nat.lt_of_lt_of_le h4 hX.size, fun j hj => (hX.cell (p := ⟨q, o + j, none⟩) h4).trans (h5 j hj)⟩
  have HX := hid hX
  have HN2 := hid hN2
  have PA := hid (plant_any (B := w.heap.size) (tb := w.heap.size + 1) (mb := w.heap.size) (L0 := []) (w := X0) 0 nx 0 _ _ l il R g (hid (I.out.below hX)) (hid J0) hR hlen.out hn.out hg hs hd hp (hid (fun i hi => ⟨by simp [idg], hf.out i hi⟩)) (hid (by simp)) hat G0 (hid hN2) (by omega))
  clear hA1 hA2 hM hX hN2 J0 hmm hs1 G0 J I
  refine PA.out.mono ?_
  rintro e w1 ⟨V', L1, rfl, hrow, hm1, hg1, hn1, ho1, hk1⟩
  obtain ⟨a', c', rfl⟩ := hrow.form
  have HROW := hid hrow
  have HM1 := hid hm1
  have HG1 := hid hg1
  have HO1 := hid ho1
  have HK1 := hid hk1
  have t1 : w1.heap[w.heap.size + 1]? = some (.cells #[.map (some w.heap.size), .int .i64 0, .int .i64 nx] 64 (0, 0)) := (hk1.block _ (by omega) (by simp)).trans HN2.out
  have HT1 := hid t1
  have HNB : Hid (∀ b ∈ allB L1, w.heap.size + 2 ≤ b) := hid (by rw [← hs2]; exact hn1)
  obtain ⟨tp, HTP⟩ : ∃ tp, Hid (tops g = tp) := ⟨_, hid rfl⟩
  rw [HTP.out]
  have hw1 : w.heap.size + 2 ≤ w1.heap.size := by have := hk1.size; omega
  clear hrow hm1 hg1 hn1 ho1 hk1 t1 PA
  go_wp2_with fail
  go_loopw [9, 19] (fun v9 v19 X => ∃ k : Nat, v19 = .int .i64 (k : Int) ∧ k ≤ tp.length ∧ Hid (w1.grownBy X (some (w.heap.size + 1)) ∧ X.heap[w.heap.size + 1]? = some (.cells #[.map (some w.heap.size), .int .i64 (if k = 0 then 0 else rootF g), .int .i64 nx] 64 (0, 0)))) (fun _ v19 _ => tp.length - (intOf v19).toNat)
  case atStart => exact ⟨0, rfl, by omega, hid ⟨⟨rfl, rfl, rfl, Nat.le_refl _, fun _ _ _ => rfl⟩, HT1.out⟩⟩
  case round =>
    obtain ⟨k, rfl, hk, HI⟩ := hrel
    have htl : tp.length ≤ 1 := by rw [← HTP.out]; exact ht.out
    by_cases h1 : k < tp.length
    · have h1' : (k : Int) < (tp.length : Int) := by omega
      obtain rfl : k = 0 := by omega
      obtain ⟨i, hi⟩ : ∃ i, tp = [i] := by
        cases tp with
        | nil => simp at h1
        | cons i r => exact ⟨i, by simp at htl; rw [htl]⟩
      have hne : tops g ≠ [] := by rw [HTP.out, hi]; simp
      obtain ⟨q, qc, e0, hq1, hq2, _, hq4⟩ := HROW.out.cells hne
      simp only [Value.slice.injEq] at e0
      obtain ⟨rfl, -, rfl⟩ := e0
      have hl0 : 0 < (tops g).length := List.length_pos_iff.2 hne
      have d0 := hq4 0 hl0
      have hti : (tops g)[0] = i := by simp only [HTP.out, hi]; rfl
      rw [hti] at d0
      have hqt : q ≠ w.heap.size + 1 := by omega
      have y0 : wr.cell? ⟨q, 0, none⟩ = some (.int .i64 i) := by
        rw [← d0]
        unfold World.cell?
        rw [HI.out.1.block q hq2 (by simpa using hqt)]
      have z1 : wr.cell? ⟨w.heap.size + 1, 1, none⟩ = some (.int .i64 0) := by rw [Lib.cell_of_heap HI.out.2]; rfl
      have fz : wr.frozen? ⟨w.heap.size + 1, 1, none⟩ = false := Lib.frozen_of_heap HI.out.2 1
      have HRF : Hid (rootF g = i) := hid (by
        cases g with
        | none => simp [tops] at hne
        | some n =>
          obtain ⟨j, x, kk, ss⟩ := n
          have := hti
          simpa [tops, rootF] using this)
      have HSET : Hid (w1.grownBy (wr.setCell ⟨w.heap.size + 1, 1, none⟩ (.int .i64 i)) (some (w.heap.size + 1)) ∧ (wr.setCell ⟨w.heap.size + 1, 1, none⟩ (.int .i64 i)).heap[w.heap.size + 1]? = some (.cells #[.map (some w.heap.size), .int .i64 (if 0 + 1 = 0 then 0 else rootF g), .int .i64 nx] 64 (0, 0))) := hid (by
        refine ⟨⟨HI.out.1.os, HI.out.1.tape, HI.out.1.output, by simpa [World.setCell] using HI.out.1.size, fun b hb hne2 => ?_⟩, ?_⟩
        · rw [Below.heap_setCell _ _ _ _ (by simpa using hne2)]
          exact HI.out.1.block b hb hne2
        · rw [HRF.out, heap_setCell_same _ _ _ _ _ _ HI.out.2]
          rfl)
      have hi' : (tp.length : Int) = 1 := by rw [hi]; rfl
      clear hq4 d0 hne hl0 hti hi htl
      go_wp2_with fail
      exact ⟨⟨1, by go_num, by omega, HSET⟩, by simp [intOf]; omega⟩
    · have h1' : ¬ (k : Int) < (tp.length : Int) := by omega
      have HI0 := HI.out
      clear HI
      obtain ⟨i1, i2⟩ := HI0
      have I1 := hid i1
      have I2 := hid i2
      clear i1 i2
      go_wp2_with fail
      go_ret
      have hroot : (if k = 0 then 0 else rootF g) = rootF g := by
        by_cases h0 : k = 0
        · rw [if_pos h0]
          have : tops g = [] := by rw [HTP.out]; exact List.eq_nil_of_length_eq_zero (by omega)
          cases g with
          | none => rfl
          | some n =>
            obtain ⟨j, x, kk, ss⟩ := n
            simp [tops] at this
        · rw [if_neg h0]
      rw [hroot] at I2
      have hg1 := HG1.out
      rw [List.nil_append] at hg1
      have htb : w.heap.size + 1 ∉ w.heap.size :: allB L1 := by
        intro q
        rcases List.mem_cons.1 q with r | r
        · omega
        · have := HNB.out _ r; omega
      refine ⟨_, rfl, ⟨_, _, hg1.same (fun b hb => I1.out.block b (hg1.lt b hb) (fun q => htb (by simp only [Option.some.injEq] at q; rw [← q]; exact hb))), by rw [HM1.out], I2.out, by omega, htb⟩, ?_⟩
      exact ⟨(I1.out.os.trans HK1.out.os).trans HX.out.os, (I1.out.tape.trans HK1.out.tape).trans HX.out.tape, (I1.out.output.trans HK1.out.output).trans HX.out.output, by have := I1.out.size; omega, fun b hb => ((I1.out.block b (by omega) (by simp; omega)).trans (HK1.out.block b (by omega) (by simp; omega))).trans (HX.out.block b hb)⟩
end N
end Go.Proofs.YtidccohjehegjaaDoor
namespace Go.Proofs.YtidccohjehegjaaDoor
open Go.RowKit Go.Shelf
namespace N
open T
theorem new_any (w : World) : Calls Tryd.prog 6 #[] w fun e w' => ∃ tb mb L, e = .returned (.pointer (some ⟨tb, 0, none⟩)) ∧ TreeIn w.heap.size tb mb none 1 L w' ∧ Below w.heap.size w w' := by
  have I : Hid (ItemsIn (.slice none 0 0) ([] : List IV) w) := hid ⟨⟨none, 0, rfl, by decide, fun h => absurd rfl h⟩, by simp⟩
  have J : Hid (IntsIn (.slice none 0 0) [] w) := hid ⟨none, 0, rfl, by decide, fun h => absurd rfl h⟩
  have BA := hid (build_any 1 (.slice none 0 0) (.slice none 0 0) [] [] [] none I J (hid rfl) (hid rfl) (hid (by simp)) (hid (by simp [rows])) (hid trivial) (hid (by simp [ids])) (hid (by simp [ids])) (hid (by simp)) (hid (by simp)) (hid (by simp [tops])))
  clear I J
  go_enter Tryd.func6, Tryd.ntmps6
  go_wp2_with fail
  refine BA.out.mono ?_
  rintro e w1 ⟨tb, mb, L, rfl, ht, hb⟩
  have HT := hid ht
  have HB := hid hb
  clear ht hb
  go_wp2
  go_ret
  exact ⟨_, _, _, rfl, HT.out, HB.out⟩
section
variable {B tb mb : Nat} {f : F} {nx : Int} {L : List NS} {w : World}
theorem spares_any (h : Hid (TreeIn B tb mb f nx L w)) (n : Nat) (h0 : 0 ≤ nx) (h1 : nx ≤ 2147483647) : Calls Tryd.prog 33 #[.pointer (some ⟨tb, 0, none⟩), .int .i64 (n : Int)] w fun e w' => e = .returned (.bool (decide ((n : Int) ≤ 2147483647 - nx))) ∧ w' = w := by
  obtain ⟨c0, c1, c2⟩ := h.out.cells
  go_enter Tryd.func33, Tryd.ntmps33
  go_wp2
  go_ret
  exact ⟨rfl, rfl⟩
/-- The next ids. -/
def freshL : Int → Nat → List Int
  | _, 0 => []
  | nx, n + 1 => nx :: freshL (nx + 1) n
theorem fresh_len : ∀ (n : Nat) (nx : Int), (freshL nx n).length = n
  | 0, _ => rfl
  | n + 1, nx => by simp [freshL, fresh_len n]
theorem fresh_snoc : ∀ (n : Nat) (nx : Int), freshL nx (n + 1) = freshL nx n ++ [nx + n]
  | 0, nx => by simp [freshL]
  | n + 1, nx => by
    rw [freshL, fresh_snoc n (nx + 1), freshL]
    simp only [List.cons_append, List.cons.injEq, true_and]
    congr 2
    omega
set_option maxRecDepth 100000 in
theorem fresh_any (h : Hid (TreeIn B tb mb f nx L w)) (n : Nat) (hn : (n : Int) ≤ 1000000) (h0 : 0 ≤ nx) (h1 : nx ≤ 2147483647) : Calls Tryd.prog 34 #[.pointer (some ⟨tb, 0, none⟩), .int .i64 (n : Int)] w fun e w' => ∃ V, e = .returned V ∧ IntRow w.heap.size V (freshL nx n) w' ∧ Below w.heap.size w w' := by
  obtain ⟨a0, A0, A1, A2, A3⟩ := info_parts infoInt
  have htb := lt_of_block h.out.top
  go_enter Tryd.func34, Tryd.ntmps34
  go_wp2_with fail
  go_loopw [5, 6, 8] (fun v5 _ v8 X => ∃ k : Nat, v8 = .int .i64 (k : Int) ∧ k ≤ n ∧ Hid (IntRow w.heap.size v5 (freshL nx k) X ∧ Below w.heap.size w X)) (fun _ _ v8 _ => n - (intOf v8).toNat)
  case atStart => exact ⟨0, rfl, by omega, hid ⟨⟨by simp [freshL, encK], Or.inl ⟨rfl, rfl⟩⟩, Below.refl _ _⟩⟩
  case round =>
    obtain ⟨k, rfl, hk, HI⟩ := hrel
    obtain ⟨a5, c5, rfl⟩ := HI.out.1.form
    by_cases h2 : k < n
    · have h2' : (k : Int) < (n : Int) := by omega
      have c2 : wr.cell? ⟨tb, 2, none⟩ = some (.int .i64 nx) := (HI.out.2.cell (p := ⟨tb, 2, none⟩) htb).trans h.out.cells.2.2
      have HL := hid (fresh_len k nx)
      have HW := hid HI.out.1
      have HB := hid HI.out.2
      have hwr := HI.out.2.size
      have HM : Hid (k + 1 ≤ maxLen ∧ (k + 1) * 8 ≤ 140737488355328) := hid (by unfold maxLen; omega)
      rw [HL.out]
      clear HI
      go_wp2_with (
        at_builtin
        refine wpList_append_lies _ rfl (.tmp 11) (.tmp 18) 36 rfl w.heap.size 3 a0 (.int .i64 0) 1 8 Tryd.underlying36 A0 A1 A2 A3 rfl (by decide) _ k (encK (freshL nx k)) rfl (World.ownsRow.alloc (by have := HW.out; unfold IntRow at this; rwa [HL.out] at this) _) ⟨wr.heap.size, 0, none⟩ 1 1 [.int .i64 (nx + (k : Int))] rfl rfl (World.news_of_block (heap_alloc_new wr _)) (by intro u hu; simp only [List.mem_cons, List.not_mem_nil, or_false] at hu; rcases hu with rfl; rfl) (by decide) HM.out.1 HM.out.2 (by simp; omega) _ rfl ?_
        intro g7 cap7 w7 hown7 hgrow7 hloc7 _
        have HN : Hid (IntRow w.heap.size (.slice (some ⟨g7, 0, none⟩) (k + 1) cap7) (freshL nx (k + 1)) w7 ∧ Below w.heap.size w w7) := hid (by
          refine ⟨?_, ?_⟩
          · unfold IntRow
            rw [fresh_len]
            rw [fresh_snoc, show encK (freshL nx k ++ [nx + (k : Int)]) = encK (freshL nx k) ++ [.int .i64 (nx + (k : Int))] by simp [encK]]
            exact hown7
          · have hA := grow wr (.cells #[.int .i64 (nx + (k : Int))] 3)
            refine (HB.out.trans (hA.mono hwr)).grown hgrow7 (Nat.le_trans hwr hA.size) (fun j hj => ?_)
            exact (own_lt HW.out (g := j) (by rw [HL.out]; exact hj)).1)
        clear hown7 hgrow7 hloc7)
      exact ⟨⟨k + 1, by go_num, by omega, HN⟩, by simp [intOf]; omega⟩
    · have h2' : ¬ (k : Int) < (n : Int) := by omega
      obtain rfl : k = n := by omega
      have HW := hid HI.out.1
      have HB := hid HI.out.2
      clear HI
      go_wp2_with fail
      go_ret
      exact ⟨_, rfl, HW.out, HB.out⟩
end
end N
end Go.Proofs.YtidccohjehegjaaDoor
namespace Go.Proofs.YtidccohjehegjaaDoor
open Go.RowKit Go.Shelf
namespace N
open T
section
variable {B tb mb : Nat} {f : F} {nx : Int} {L : List NS} {w : World}
theorem named_zip : ∀ (l : List P.Itm) (nx : Int), named nx 0 l = (freshL nx l.length).zip l
  | [], _ => rfl
  | x :: l, nx => by
    rw [named, List.length_cons, freshL, List.zip_cons_cons, named_zip l (nx + 1)]
    have : ({ x with level := x.level + 0 } : P.Itm) = x := by cases x; simp
    rw [this]
theorem fresh_mem : ∀ (n : Nat) (nx i : Int), i ∈ freshL nx n ↔ nx ≤ i ∧ i < nx + n
  | 0, nx, i => by
    simp only [freshL, List.not_mem_nil, false_iff]
    omega
  | n + 1, nx, i => by
    rw [freshL, List.mem_cons, fresh_mem n (nx + 1) i]
    omega
theorem IntRow.ints {base : Nat} {V : Value} {l : List Int} {w : World} (h : IntRow base V l w) (hl : l.length ≤ 9223372036854775807) : IntsIn V l w := by
  obtain ⟨a, c, rfl⟩ := h.form
  refine ⟨a, c, rfl, hl, fun hne => ?_⟩
  obtain ⟨g, cap, e, _, h2, _, h4⟩ := h.cells hne
  simp only [Value.slice.injEq] at e
  obtain ⟨rfl, _, _⟩ := e
  exact ⟨g, 0, rfl, h2, fun j hj => by rw [Nat.zero_add]; exact h4 j hj⟩
theorem own_down {w : World} {B B' : Nat} {e : TypeId} {size : Nat} {v : Value} {n : Nat} {xs : List Value} (h : w.ownsRow B e size v n xs) (hb : B' ≤ B) : w.ownsRow B' e size v n xs := by
  refine ⟨h.1, ?_⟩
  rcases h.2 with h2 | ⟨g, cap, cur, h3, h4, h5⟩
  · exact Or.inl h2
  · exact Or.inr ⟨g, cap, cur, h3, Nat.le_trans hb h4, h5⟩
theorem GraphIn.down {B B' mb : Nat} {L : List NS} {w : World} (h : GraphIn B mb L w) (hb : B' ≤ B) : GraphIn B' mb L w :=
  ⟨fun p hp => ⟨(h.nodes p hp).cell, own_down (h.nodes p hp).attrs hb, own_down (h.nodes p hp).kids hb⟩, h.nd, fun b hq => Nat.le_trans hb (h.ge b hq), h.map⟩
/-- What a tree built elsewhere leaves where it is moved to the tree's own block. -/
theorem moved_in {B2 t2 m2 tb mb : Nat} {f g : F} {nx nx2 : Int} {L L2 : List NS} {w w3 : World} (h : TreeIn B tb mb f nx L w) (h0 : TreeIn B tb mb f nx L w3) (h3 : TreeIn B2 t2 m2 g nx2 L2 w3) (hb : Below w.heap.size w w3) (hs : w.heap.size ≤ B2) :
    Left B tb mb L w g nx2 (((w3.setCell ⟨tb, 0, none⟩ (.map (some m2))).setCell ⟨tb, 1, none⟩ (.int .i64 (rootF g))).setCell ⟨tb, 2, none⟩ (.int .i64 nx2)) ∧
    (((w3.setCell ⟨tb, 0, none⟩ (.map (some m2))).setCell ⟨tb, 1, none⟩ (.int .i64 (rootF g))).setCell ⟨tb, 2, none⟩ (.int .i64 nx2)).heap[tb]? = some (.cells #[.map (some m2), .int .i64 (rootF g), .int .i64 nx2] 64 (0, 0)) := by
  have hlt := lt_of_block h.top
  have k1 := heap_setCell_same w3 tb 0 _ _ (.map (some m2)) h0.top
  have k2 := heap_setCell_same _ tb 1 _ _ (.int .i64 (rootF g)) k1
  have k3 := heap_setCell_same _ tb 2 _ _ (.int .i64 nx2) k2
  have oth : ∀ b, b ≠ tb → (((w3.setCell ⟨tb, 0, none⟩ (.map (some m2))).setCell ⟨tb, 1, none⟩ (.int .i64 (rootF g))).setCell ⟨tb, 2, none⟩ (.int .i64 nx2)).heap[b]? = w3.heap[b]? := fun b hb => by
    rw [Below.heap_setCell _ _ _ _ hb, Below.heap_setCell _ _ _ _ hb, Below.heap_setCell _ _ _ _ hb]
  have hne : ∀ b ∈ m2 :: allB L2, b ≠ tb := fun b hb q => by have := h3.graph.ge b hb; omega
  have hBt : B ≤ w.heap.size := by have := h.tbB; omega
  refine ⟨⟨⟨m2, L2, ⟨(h3.graph.same fun b hb => oth b (hne b hb)).down (by omega), h3.ents, k3, h.tbB, fun q => hne tb q rfl⟩, fun b hb => Or.inr (by have := h3.graph.ge b hb; omega)⟩, hb.os, hb.tape, hb.output, by have := hb.size; simpa [World.setCell] using this, fun b hb' hq => ?_⟩, k3⟩
  rw [oth b (fun q => hq (by rw [q]; exact List.mem_cons_self ..))]
  exact hb.block b hb'
set_option maxRecDepth 100000 in
set_option maxHeartbeats 4000000 in
theorem load_ok (h : Hid (TreeIn B tb mb f nx L w)) (V : Value) (l : List IV) (I : Hid (ItemsIn V l w)) (FC : Hid (∀ x ∈ l, FitC x.1)) (ht : Hid (Tab w)) (hnx : 1 ≤ nx) (hl1 : l.length ≤ 1000) (hat : Hid (∀ x ∈ l, x.1.attrs.length ≤ 100000)) (hc : Hid (P.checkP (l.map (·.1)) = (0, 0))) (hm : nx + l.length ≤ 2147483647) :
    Calls Tryd.prog 19 #[.pointer (some ⟨tb, 0, none⟩), V] w fun e w' => e = .returned (.tuple #[.int .i64 nx, .int .i64 0]) ∧ Left B tb mb L w (forestOf nx 0 (l.map (·.1))) (nx + l.length) w' := by
  obtain ⟨ao, cap, rfl, hl, hcc⟩ := I.out.1
  obtain ⟨hf0, ⟨x0, k0, hfo, hk0, hok⟩⟩ := load_tree nx hc.out
  have CH := hid (check_any I FC ht.out 0 0 hc)
  clear hcc
  go_enter Tryd.func19, Tryd.ntmps19
  go_wp2_with fail
  refine CH.out.mono ?_
  rintro e w1 ⟨rfl, hb1⟩
  have HB1 := hid hb1
  have T1 := hid (h.out.below hb1)
  clear hb1 CH
  go_wp2_with fail
  refine (spares_any T1 l.length (by omega) (by omega)).mono ?_
  rintro e w2 ⟨rfl, hw2⟩
  rw [hw2]
  clear hw2
  have hsp : decide ((l.length : Int) ≤ 2147483647 - nx) = true := by simp; omega
  rw [hsp]
  go_wp2_with fail
  have HL := hid (T1.out.below ((Below.refl _ w1).drew))
  have IL := hid (I.out.below (HB1.out.trans ((Below.refl _ w1).drew.mono HB1.out.size)))
  have HS0 : Hid (w1.drew.cell? ⟨tb, 2, none⟩ = some (.int .i64 nx)) := hid HL.out.cells.2.2
  have EF : Hid (∀ args w, (callFunc 34 args).run Tryd.prog w = .ok (.enter 34 args) w) := hid (enters_of Tryd.func34 (by kernel_rfl) rfl)
  have EB : Hid (∀ args w, (callFunc 18 args).run Tryd.prog w = .ok (.enter 18 args) w) := hid (enters_of Tryd.func18 (by kernel_rfl) rfl)
  have hnn : 0 ≤ nx := by omega
  clear hsp
  refine till_begin (z := 17) (S := fun w' => w'.cell? ⟨tb, 2, none⟩ = some (.int .i64 nx)) (by kernel_rfl) ?_
  refine till_free (i := 0) (v := ?_) rfl (by kernel_rfl) (by kernel_rfl) (by kernel_rfl) (by kernel_rfl) (fun _ _ _ h => h) (Or.inl ⟨by rfl, ?_⟩) HS0.out ?_
  rotate_left
  · intro w' hs; go_simp; (try with_reducible rfl)
  refine till_free (i := 1) (v := ?_) rfl (by kernel_rfl) (by kernel_rfl) (by kernel_rfl) (by kernel_rfl) (fun _ _ _ h => h) (Or.inl ⟨by rfl, ?_⟩) HS0.out ?_
  rotate_left
  · intro w' hs; go_simp; (try with_reducible rfl)
  refine till_free (i := 2) (v := ?_) rfl (by kernel_rfl) (by kernel_rfl) (by kernel_rfl) (by kernel_rfl) (fun _ _ _ h => h) (Or.inl ⟨by rfl, ?_⟩) HS0.out ?_
  rotate_left
  · intro w' hs; go_simp; (try with_reducible rfl)
  refine till_free (i := 3) (v := ?_) rfl (by kernel_rfl) (by kernel_rfl) (by kernel_rfl) (by kernel_rfl) (fun _ _ _ h => h) (Or.inl ⟨by rfl, ?_⟩) HS0.out ?_
  rotate_left
  · intro w' hs; go_simp; (try with_reducible rfl)
  refine till_free (i := 4) (v := ?_) rfl (by kernel_rfl) (by kernel_rfl) (by kernel_rfl) (by kernel_rfl) (fun _ _ _ h => h) (Or.inl ⟨by rfl, ?_⟩) HS0.out ?_
  rotate_left
  · intro w' hs; go_simp; (try with_reducible rfl)
  refine till_free (i := 6) (v := ?_) rfl (by kernel_rfl) (by kernel_rfl) (by kernel_rfl) (by kernel_rfl) (fun _ _ _ h => h) (Or.inl ⟨by rfl, ?_⟩) HS0.out ?_
  rotate_left
  · intro w' hs; go_simp; (try with_reducible rfl)
  refine till_free (i := 7) (v := ?_) rfl (by kernel_rfl) (by kernel_rfl) (by kernel_rfl) (by kernel_rfl) (fun _ _ _ h => h) (Or.inl ⟨by rfl, ?_⟩) HS0.out ?_
  rotate_left
  · intro w' hs; go_simp; (try with_reducible rfl)
  refine till_free (i := 8) (v := ?_) rfl (by kernel_rfl) (by kernel_rfl) (by kernel_rfl) (by kernel_rfl) (fun _ _ _ h => h) (Or.inl ⟨by rfl, ?_⟩) HS0.out ?_
  rotate_left
  · intro w' hs; go_simp; (try with_reducible rfl)
  refine till_take (i := 9) (v := ?_) rfl (by kernel_rfl) (by kernel_rfl) (by kernel_rfl) (by kernel_rfl) (fun _ _ _ h => h) (Or.inl ⟨by rfl, ?_⟩) HS0.out ?_
  rotate_left
  · intro w' hs; go_simp; (try with_reducible rfl)
  refine till_free (i := 10) (v := ?_) rfl (by kernel_rfl) (by kernel_rfl) (by kernel_rfl) (by kernel_rfl) (fun _ _ _ h => h) (Or.inl ⟨by rfl, ?_⟩) HS0.out ?_
  rotate_left
  · intro w' hs; go_simp; (try with_reducible rfl)
  refine till_free (i := 11) (v := ?_) rfl (by kernel_rfl) (by kernel_rfl) (by kernel_rfl) (by kernel_rfl) (fun _ _ _ h => h) (Or.inl ⟨by rfl, ?_⟩) HS0.out ?_
  rotate_left
  · intro w' hs; go_simp; (try with_reducible rfl)
  refine till_free (i := 12) (v := ?_) rfl (by kernel_rfl) (by kernel_rfl) (by kernel_rfl) (by kernel_rfl) (fun _ _ _ h => h) (Or.inl ⟨by rfl, ?_⟩) HS0.out ?_
  rotate_left
  · intro w' hs; go_simp; (try with_reducible rfl)
  refine till_one (i := 5) (by kernel_rfl) rfl fun K hK => ?_
  have FA := hid (fresh_any HL l.length (by omega) hnn (by omega))
  refine step_calls rfl _ _ _ rfl EF.out #[.pointer (some ⟨tb, 0, none⟩), .int .i64 (l.length : Int)] (by go_simp) (fun V2 w2 => IntRow w1.drew.heap.size V2 (freshL nx l.length) w2 ∧ Below w1.drew.heap.size w1.drew w2) (FA.out.mono (by rintro e w2 ⟨V2, rfl, p, q⟩; exact ⟨V2, rfl, p, q⟩)) ?_
  rintro V2 w2 ⟨hr2, hb2⟩
  have HR2 := hid hr2
  have HB2 := hid hb2
  have HS2 : Hid (w2.cell? ⟨tb, 2, none⟩ = some (.int .i64 nx)) := hid (HL.out.below hb2).cells.2.2
  clear hr2 hb2 FA
  refine hK.out _ _ (fun _ _ => HS2.out) ?_
  clear hK K
  refine till_one (i := 13) (by kernel_rfl) rfl fun K hK => ?_
  obtain ⟨g, HG⟩ : ∃ g, Hid (forestOf nx 0 (l.map (·.1)) = g) := ⟨_, hid rfl⟩
  have hfo' := HG.out
  rw [hfo'] at hfo hok
  clear hfo'
  have HFL : Hid ((freshL nx l.length).length = l.length) := hid (fresh_len l.length nx)
  have HROWS : Hid (rows g 0 = (freshL nx l.length).zip (l.map (·.1))) := hid (by rw [← HG.out, forest_rows nx 0 hf0, named_zip, List.length_map])
  have HIDS : Hid (ids g = freshL nx l.length) := hid (by
    rw [← rows_ids g 0, HROWS.out, List.map_fst_zip (by rw [HFL.out, List.length_map]; exact Nat.le_refl _)])
  have HND : Hid ((ids g).Nodup) := hid (by rw [← HG.out, forest_ids nx 0 hf0]; exact named_nodup _ _ _)
  have HST : Hid (stairs 0 0 ((freshL nx l.length).zip (l.map (·.1)))) := hid (by
    have := forest_stairs (l.map (·.1)) none nx 0 hf0
    rw [named_zip, List.length_map] at this
    simpa [topS] using this)
  have HP0 : Hid ((0 : Int) ∉ ids g) := hid (by rw [HIDS.out, fresh_mem]; omega)
  have HWF : Hid (∀ i ∈ freshL nx l.length, wfI i) := hid (by
    intro i hi
    rw [fresh_mem] at hi
    simp only [wfI, Lit.wf, Bool.and_eq_true, decide_eq_true_eq]
    refine ⟨Int.le_trans (by decide : IntKind.i64.min ≤ 0) (by omega), Int.le_trans (by omega : i ≤ 9223372036854775807) (by decide)⟩)
  have HTP : Hid ((tops g).length ≤ 1) := hid (by rw [hfo]; simp [tops])
  have IL2 := hid (IL.out.below HB2.out)
  have HJ2 := hid (IntRow.ints HR2.out (by rw [HFL.out]; omega))
  have HLN : Hid (l.length ≤ 100000) := hid (by omega)
  have BA := hid (build_any (nx + (l.length : Int)) _ V2 l (freshL nx l.length) _ g IL2 HJ2 (hid rfl) HFL HLN HROWS HST HND HP0 HWF hat HTP)
  refine step_calls rfl _ _ _ rfl EB.out #[.slice ao l.length cap, V2, .int .i64 (nx + (l.length : Int))] (by go_simp; rw [IntKind.wrap_i64]; omega) (fun v w3 => ∃ t2 m2 L2, v = .pointer (some ⟨t2, 0, none⟩) ∧ TreeIn w2.heap.size t2 m2 g (nx + (l.length : Int)) L2 w3 ∧ Below w2.heap.size w2 w3) (BA.out.mono (by rintro e w3 ⟨t2, m2, L2, rfl, p, q⟩; exact ⟨_, rfl, t2, m2, L2, rfl, p, q⟩)) ?_
  rintro v3 w3 ⟨t2, m2, L2, rfl, ht3, hb3⟩
  have HT3 := hid ht3
  have HB3 := hid hb3
  have HS3 : Hid (w3.cell? ⟨tb, 2, none⟩ = some (.int .i64 nx)) := hid (((HL.out.below HB2.out).below hb3).cells.2.2)
  clear ht3 hb3 BA
  refine hK.out _ _ (fun _ _ => HS3.out) ?_
  clear hK K
  refine till_free (i := 14) (v := ?_) rfl (by kernel_rfl) (by kernel_rfl) (by kernel_rfl) (by kernel_rfl) (fun _ _ _ h => h) (Or.inl ⟨by rfl, ?_⟩) HS3.out ?_
  rotate_left
  · intro w' hs; go_simp; (try with_reducible rfl)
  have HT0 := hid ((HL.out.below HB2.out).below HB3.out)
  have HC3 := hid HT3.out.cells
  refine till_load (i := 15) (by kernel_rfl) rfl rfl _ _ rfl (.pointer (some ⟨t2, 0, none⟩)) (.agg #[.map (some m2), .int .i64 (rootF g), .int .i64 (nx + (l.length : Int))]) ?_ (load_tree3 HC3.out.1 HC3.out.2.1 HC3.out.2.2) HS3.out ?_
  · kernel_rfl
  refine till_free (i := 16) (v := ?_) rfl (by kernel_rfl) (by kernel_rfl) (by kernel_rfl) (by kernel_rfl) (fun _ _ _ h => h) (Or.inl ⟨by rfl, ?_⟩) HS3.out ?_
  rotate_left
  · intro w' hs; go_simp; (try with_reducible rfl)
  refine till_store (i := 17) (by kernel_rfl) rfl rfl _ _ _ rfl (.pointer (some ⟨tb, 0, none⟩)) (.agg #[.map (some m2), .int .i64 (rootF g), .int .i64 (nx + (l.length : Int))]) ?_ ?_ (store_tree3 HT0.out.top) (fun h => absurd rfl h) ?_
  · kernel_rfl
  · kernel_rfl
  have hB3 : Below w.heap.size w w3 := ((HB1.out.trans ((Below.refl _ w1).drew.mono HB1.out.size)).trans (HB2.out.mono (by have := HB1.out.size; exact this))).trans (HB3.out.mono (by have h1 := HB1.out.size; have h2 := HB2.out.size; exact Nat.le_trans h1 h2))
  obtain ⟨dn, dt⟩ := moved_in h.out HT0.out HT3.out hB3 (by have h1 := HB1.out.size; have h2 := HB2.out.size; exact Nat.le_trans h1 h2)
  have DN := hid dn
  have DT := hid dt
  have HRF : Hid (rootF g = nx) := hid (by rw [hfo]; rfl)
  refine till_done (by kernel_rfl) ?_ _
  clear dn dt hB3 HT0 HT3 HC3 HB3 HS3 HB2 HL IL I
  generalize (((w3.setCell ⟨tb, 0, none⟩ (.map (some m2))).setCell ⟨tb, 1, none⟩ (.int .i64 (rootF g))).setCell ⟨tb, 2, none⟩ (.int .i64 (nx + (l.length : Int)))) = w9 at DN DT ⊢
  have c1 : w9.cell? ⟨tb, 1, none⟩ = some (.int .i64 nx) := by rw [Lib.cell_of_heap DT.out, ← HRF.out]; rfl
  go_wp2
  go_ret2
  rw [HG.out]
  exact ⟨rfl, DN.out⟩
end
end N
end Go.Proofs.YtidccohjehegjaaDoor
namespace Go.Proofs.YtidccohjehegjaaDoor
open Go.RowKit Go.Shelf
namespace N
open T
section
variable {B tb mb : Nat} {f : F} {nx : Int} {L : List NS} {w : World}
theorem next_any' (h : Hid (TreeIn B tb mb f nx L w)) : Calls Tryd.prog 17 #[.pointer (some ⟨tb, 0, none⟩)] w fun e w' => e = .returned (.int .i64 nx) ∧ w' = w := by
  obtain ⟨c0, c1, c2⟩ := h.out.cells
  go_enter Tryd.func17, Tryd.ntmps17
  go_wp2
  go_ret
  exact ⟨rfl, rfl⟩
set_option maxRecDepth 100000 in
set_option maxHeartbeats 2000000 in
theorem load_bad (h : Hid (TreeIn B tb mb f nx L w)) (V : Value) (l : List IV) (I : Hid (ItemsIn V l w)) (FC : Hid (∀ x ∈ l, FitC x.1)) (ht : Hid (Tab w)) (a e : Int) (hc : Hid (P.checkP (l.map (·.1)) = (a, e))) (he : e ≠ 0) :
    Calls Tryd.prog 19 #[.pointer (some ⟨tb, 0, none⟩), V] w fun r w' => r = .returned (.tuple #[.int .i64 0, .int .i64 e]) ∧ Left B tb mb L w f nx w' := by
  obtain ⟨ao, cap, rfl, hl, hcc⟩ := I.out.1
  have CH := hid (check_any I FC ht.out a e hc)
  have he' : (e != 0) = true := by simpa using he
  clear hcc he
  go_enter Tryd.func19, Tryd.ntmps19
  go_wp2_with fail
  refine CH.out.mono ?_
  rintro r w1 ⟨rfl, hb1⟩
  have HB1 := hid hb1
  clear hb1 CH
  go_wp2
  go_ret2
  exact ⟨rfl, Left.same h.out HB1.out⟩
set_option maxRecDepth 100000 in
set_option maxHeartbeats 2000000 in
theorem load_many (h : Hid (TreeIn B tb mb f nx L w)) (V : Value) (l : List IV) (I : Hid (ItemsIn V l w)) (FC : Hid (∀ x ∈ l, FitC x.1)) (ht : Hid (Tab w)) (hnx : 1 ≤ nx) (hnx2 : nx ≤ 2147483647) (hc : Hid (P.checkP (l.map (·.1)) = (0, 0))) (hm : 2147483647 < nx + l.length) :
    Calls Tryd.prog 19 #[.pointer (some ⟨tb, 0, none⟩), V] w fun r w' => r = .returned (.tuple #[.int .i64 0, .int .i64 66]) ∧ Left B tb mb L w f nx w' := by
  obtain ⟨ao, cap, rfl, hl, hcc⟩ := I.out.1
  have CH := hid (check_any I FC ht.out 0 0 hc)
  clear hcc
  go_enter Tryd.func19, Tryd.ntmps19
  go_wp2_with fail
  refine CH.out.mono ?_
  rintro r w1 ⟨rfl, hb1⟩
  have HB1 := hid hb1
  have T1 := hid (h.out.below hb1)
  clear hb1 CH
  go_wp2_with fail
  refine (spares_any T1 l.length (by omega) (by omega)).mono ?_
  rintro r w2 ⟨rfl, hw2⟩
  rw [hw2]
  clear hw2
  have hsp : decide ((l.length : Int) ≤ 2147483647 - nx) = false := by simp; omega
  rw [hsp]
  go_wp2
  go_ret2
  exact ⟨rfl, Left.same h.out HB1.out⟩
end
theorem checkF_zero : ∀ (l : List P.Itm) (prev : Option P.Itm) (k : Nat), (P.checkF prev k l).2 = 0 → P.checkF prev k l = (0, 0) ∧ (l ≠ [] → k + l.length ≤ 1000)
  | [], _, _, _ => ⟨rfl, fun h => absurd rfl h⟩
  | x :: l, prev, k, h => by
    unfold P.checkF at h ⊢
    by_cases he : P.itemE prev k x = 0
    · rw [if_neg (by simpa using he)] at h ⊢
      obtain ⟨h1, h2⟩ := checkF_zero l (some x) (k + 1) h
      refine ⟨h1, fun _ => ?_⟩
      have hk := (P.item_ok he).2.2.1
      cases l with
      | nil => simp; omega
      | cons y l => have := h2 (by simp); simp at this ⊢; omega
    · rw [if_pos he] at h
      exact absurd h he
theorem check_zero {l : List P.Itm} (h : (P.checkP l).2 = 0) : P.checkP l = (0, 0) ∧ l.length ≤ 1000 := by
  unfold P.checkP at h ⊢
  by_cases hl : l = []
  · rw [if_pos hl] at h; simp at h
  · rw [if_neg hl] at h ⊢
    obtain ⟨h1, h2⟩ := checkF_zero l none 0 h
    exact ⟨h1, by have := h2 hl; omega⟩
/-- What Load makes of a forest. -/
def loadF (f : F) (nx : Int) (l : List P.Itm) : (F × Int) × Int × Int :=
  if (P.checkP l).2 ≠ 0 then ((f, nx), 0, (P.checkP l).2)
  else if 2147483647 < nx + l.length then ((f, nx), 0, 66)
  else ((forestOf nx 0 l, nx + l.length), nx, 0)
section
variable {B tb mb : Nat} {f : F} {nx : Int} {L : List NS} {w : World}
theorem load_any (h : Hid (TreeIn B tb mb f nx L w)) (V : Value) (l : List IV) (I : Hid (ItemsIn V l w)) (FC : Hid (∀ x ∈ l, FitC x.1)) (ht : Hid (Tab w)) (hnx : 1 ≤ nx) (hnx2 : nx ≤ 2147483647) (hat : Hid (∀ x ∈ l, x.1.attrs.length ≤ 100000)) :
    Calls Tryd.prog 19 #[.pointer (some ⟨tb, 0, none⟩), V] w fun r w' => r = .returned (.tuple #[.int .i64 (loadF f nx (l.map (·.1))).2.1, .int .i64 (loadF f nx (l.map (·.1))).2.2]) ∧ Left B tb mb L w (loadF f nx (l.map (·.1))).1.1 (loadF f nx (l.map (·.1))).1.2 w' := by
  obtain ⟨⟨a, e⟩, hc⟩ : ∃ p, P.checkP (l.map (·.1)) = p := ⟨_, rfl⟩
  unfold loadF
  have hz := check_zero (l := l.map (·.1))
  rw [hc] at hz ⊢
  by_cases he : e = 0
  · subst he
    rw [if_neg (by simp)]
    obtain ⟨h1, h2⟩ := hz rfl
    rw [List.length_map] at h2
    rw [Prod.mk.injEq] at h1
    obtain ⟨rfl, -⟩ := h1
    by_cases hm : 2147483647 < nx + (l.length : Int)
    · rw [if_pos (by rw [List.length_map]; exact hm)]
      exact load_many h V l I FC ht hnx hnx2 (hid hc) hm
    · rw [if_neg (by rw [List.length_map]; exact hm), List.length_map]
      exact load_ok h V l I FC ht hnx h2 hat (hid hc) (by omega)
  · rw [if_pos (by exact he)]
    exact load_bad h V l I FC ht a e (hid hc) he
end
end N
end Go.Proofs.YtidccohjehegjaaDoor
