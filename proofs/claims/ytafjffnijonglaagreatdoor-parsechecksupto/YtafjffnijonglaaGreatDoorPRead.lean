/- What a draft of parse is in memory, items in a row, and the names of what is open; the walks of its small methods: closes, outside, with, add, whole, take. -/
import Derived.Test.YtafjffnijonglaaGreatDoorPPlain
import Derived.Test.YtafjffnijonglaaGreatDoorLAll
import Derived.ArgAppend
namespace Go.Proofs.YtafjffnijonglaaGreatDoor
open Go.RowKit Go.Shelf
abbrev IV := P.Itm × Value
def encI1 (x : IV) : List Value := [.int .i64 x.1.level, .int .i64 x.1.kind, .string x.1.name, .string x.1.text, x.2]
def encI (l : List IV) : List Value := l.flatMap encI1
/-- Items lie in a row of the call's own, and each one's attributes in another. -/
def ItmRow (base : Nat) (V : Value) (l : List IV) (w : World) : Prop :=
  w.ownsRow base 34 5 V l.length (encI l) ∧ ∀ x ∈ l, w.ownsRow base 67 2 x.2 x.1.attrs.length (encL x.1.attrs)
theorem encI_snoc (l : List IV) (x : IV) : encI (l ++ [x]) = encI l ++ encI1 x := by simp [encI]
theorem ItmRow.below {base : Nat} {V : Value} {l : List IV} {w w' : World} (h : ItmRow base V l w) (hb : Below w.heap.size w w') : ItmRow base V l w' := ⟨row_below h.1 hb, fun x hx => row_below (h.2 x hx) hb⟩
/-- Names lie in a row of the call's own, perhaps with more behind them. -/
def NamesAt (base : Nat) (V : Value) (op : List ByteArray) (w : World) : Prop :=
  (V = .slice none 0 0 ∧ op = []) ∨ ∃ g cap cur, V = .slice (some ⟨g, 0, none⟩) op.length cap ∧ base ≤ g ∧ w.heap[g]? = some (.cells cur 9 (0, 0)) ∧ op.length ≤ cap ∧ cap ≤ maxLen ∧ ∀ j (h : j < op.length), cur[j]? = some (.string op[j])
theorem NamesAt.below {base : Nat} {V : Value} {op : List ByteArray} {w w' : World} (h : NamesAt base V op w) (hb : Below w.heap.size w w') : NamesAt base V op w' := by
  rcases h with h | ⟨g, cap, cur, h1, h2, h3, h4⟩
  · exact Or.inl h
  · exact Or.inr ⟨g, cap, cur, h1, h2, by rw [hb.block g (lt_of_block h3)]; exact h3, h4⟩
theorem NamesAt.form {base : Nat} {V : Value} {op : List ByteArray} {w : World} (h : NamesAt base V op w) : ∃ ao cap, V = .slice ao op.length cap ∧ op.length ≤ cap ∧ (ao = none → op.length = 0 ∧ cap = 0) ∧ ∀ b, ao = some b → ∃ g, b = ⟨g, 0, none⟩ ∧ base ≤ g ∧ g < w.heap.size ∧ ∀ j (h : j < op.length), w.cell? ⟨g, j, none⟩ = some (.string op[j]) := by
  rcases h with ⟨rfl, rfl⟩ | ⟨g, cap, cur, rfl, h2, h3, h4, h5, h6⟩
  · exact ⟨none, 0, rfl, by simp, by simp, by simp⟩
  · refine ⟨some ⟨g, 0, none⟩, cap, rfl, h4, by simp, fun b hb => ⟨g, by simpa using hb.symm, h2, lt_of_block h3, fun j hj => ?_⟩⟩
    rw [cell_of_row w g j _ _ _ h3]
    exact h6 j hj
theorem row_set {base e : Nat} {e' : TypeId} {size : Nat} {v : Value} {n : Nat} {xs : List Value} {w : World} {b j : Nat} {cs : Array Value} {fz : Nat × Nat} {u : Value} (h : w.ownsRow base e size v n xs) (hb : w.heap[b]? = some (.cells cs e' fz)) (ne : e ≠ e') : (w.setCell ⟨b, j, none⟩ u).ownsRow base e size v n xs := by
  obtain ⟨h1, h2⟩ := h
  refine ⟨h1, ?_⟩
  rcases h2 with h2 | ⟨g, cap, cur, h3, h4, h5, h6⟩
  · exact Or.inl h2
  · refine Or.inr ⟨g, cap, cur, h3, h4, ?_, h6⟩
    rw [heap_setCell_other w ⟨b, j, none⟩ g u (fun q => by
      have q' : g = b := q
      rw [q', hb] at h5
      simp only [Option.some.injEq, Obj.cells.injEq] at h5
      exact ne h5.2.1.symm)]
    exact h5
theorem names_set {base : Nat} {e' : TypeId} {V : Value} {op : List ByteArray} {w : World} {b j : Nat} {cs : Array Value} {fz : Nat × Nat} {u : Value} (h : NamesAt base V op w) (hb : w.heap[b]? = some (.cells cs e' fz)) (ne : 9 ≠ e') : NamesAt base V op (w.setCell ⟨b, j, none⟩ u) := by
  rcases h with h | ⟨g, cap, cur, h1, h2, h3, h4⟩
  · exact Or.inl h
  · refine Or.inr ⟨g, cap, cur, h1, h2, ?_, h4⟩
    rw [heap_setCell_other w ⟨b, j, none⟩ g u (fun q => by
      have q' : g = b := q
      rw [q', hb] at h3
      simp only [Option.some.injEq, Obj.cells.injEq] at h3
      exact ne h3.2.1.symm)]
    exact h3
/-- A draft lies at block b of a world that goes back to W0. -/
structure DR (W0 : World) (b : Nat) (VI VN : Value) (its : List IV) (op : List ByteArray) (w : World) : Prop where
  tab : Tab W0
  low : W0.heap.size ≤ b
  bel : Below W0.heap.size W0 w
  obj : w.heap[b]? = some (.cells #[VI, VN] 38 (0, 0))
  itm : ItmRow W0.heap.size VI its w
  nam : NamesAt W0.heap.size VN op w
section
variable {W0 : World} {b : Nat} {VI VN : Value} {its : List IV} {op : List ByteArray} {w : World}
theorem DR.lt (h : DR W0 b VI VN its op w) : b < w.heap.size := lt_of_block h.obj
theorem DR.tabw (h : DR W0 b VI VN its op w) : Tab w := h.tab.below h.bel
theorem DR.cell (h : DR W0 b VI VN its op w) (j : Nat) : w.cell? ⟨b, j, none⟩ = #[VI, VN][j]? := cell_of_row w b j _ _ _ h.obj
theorem DR.frozen (h : DR W0 b VI VN its op w) (j : Nat) : w.frozen? ⟨b, j, none⟩ = false := frozen_of_row w b j _ _ h.obj
theorem DR.below (h : DR W0 b VI VN its op w) {w' : World} (hb : Below w.heap.size w w') : DR W0 b VI VN its op w' :=
  ⟨h.tab, h.low, h.bel.trans (hb.mono (Nat.le_of_lt (Nat.lt_of_le_of_lt h.low h.lt))), by rw [hb.block b h.lt]; exact h.obj, h.itm.below hb, h.nam.below hb⟩
theorem DR.new (h : DR W0 b VI VN its op w) (o : Obj) : DR W0 b VI VN its op (w.alloc o) := h.below ((Below.refl _ _).alloc (Nat.le_refl _) o)
theorem DR.drewN (h : DR W0 b VI VN its op w) (m : Nat) : DR W0 b VI VN its op (w.drewN m) :=
  ⟨h.tab, h.low, ⟨h.bel.os, h.bel.tape, h.bel.output, h.bel.size, h.bel.block⟩, h.obj, h.itm, h.nam⟩
theorem DR.setN (h : DR W0 b VI VN its op w) {VN' : Value} {op' : List ByteArray} (hn : NamesAt W0.heap.size VN' op' w) : DR W0 b VI VN' its op' (w.setCell ⟨b, 1, none⟩ VN') :=
  ⟨h.tab, h.low, h.bel.setCell (p := ⟨b, 1, none⟩) h.low _, by rw [heap_setCell_same w b 1 _ _ VN' h.obj]; rfl,
    ⟨row_set h.itm.1 h.obj (by decide), fun x hx => row_set (h.itm.2 x hx) h.obj (by decide)⟩, names_set hn h.obj (by decide)⟩
theorem DR.setI (h : DR W0 b VI VN its op w) {VI' : Value} {its' : List IV} (hn : ItmRow W0.heap.size VI' its' w) : DR W0 b VI' VN its' op (w.setCell ⟨b, 0, none⟩ VI') :=
  ⟨h.tab, h.low, h.bel.setCell (p := ⟨b, 0, none⟩) h.low _, by rw [heap_setCell_same w b 0 _ _ VI' h.obj]; rfl,
    ⟨row_set hn.1 h.obj (by decide), fun x hx => row_set (hn.2 x hx) h.obj (by decide)⟩, names_set h.nam h.obj (by decide)⟩
end

set_option maxRecDepth 100000 in
set_option maxHeartbeats 400000 in
theorem closes_any {base : Nat} {V : Value} {op : List ByteArray} {w : World} (h : NamesAt base V op w) (n : ByteArray) (hl : op.length ≤ 1048576) :
    Calls Tryz.prog 21 #[V, .string n] w fun e w' => e = .returned (.bool (P.closesB op n)) ∧ w' = w := by
  obtain ⟨ao, cap, rfl, h1, h2, h3⟩ := h.form
  clear h
  rcases List.eq_nil_or_concat op with rfl | ⟨l, a, rfl⟩
  · clear h3
    go_enter Tryz.func21, Tryz.ntmps21
    go_wp2
    go_ret
    exact ⟨rfl, rfl⟩
  · simp only [List.concat_eq_append] at *
    obtain ⟨g, rfl⟩ : ∃ g, ao = some ⟨g, 0, none⟩ := by
      cases ao with
      | none => have := (h2 rfl).1; simp at this
      | some x => obtain ⟨g, rfl, _⟩ := h3 x rfl; exact ⟨g, rfl⟩
    obtain ⟨g', e1, _, _, hc⟩ := h3 _ rfl
    simp only [Addr.mk.injEq, and_true] at e1
    subst e1
    have c0 : w.cell? ⟨g, l.length, none⟩ = some (.string a) := by have := hc l.length (by simp); simpa using this
    have E : Hid ((a.toList == n.toList) = P.closesB (l ++ [a]) n) := hid (by
      rw [str_eq]
      unfold P.closesB
      simp)
    clear h2 h3 hc
    simp only [List.length_append, List.length_cons, List.length_nil, Nat.zero_add] at hl h1 ⊢
    generalize P.closesB (l ++ [a]) n = r at *
    generalize l.length = q at *
    have h4 : (0 : Int) < ((q + 1 : Nat) : Int) := by omega
    have h5 : (((q + 1 : Nat) : Int) - 1).toNat = q := by omega
    have h6 : ((q + 1 : Nat) : Int) - 1 = (q : Int) := by omega
    go_enter Tryz.func21, Tryz.ntmps21
    go_wp2
    go_ret
    exact ⟨ret_bool E.out, rfl⟩
set_option maxRecDepth 100000 in
set_option maxHeartbeats 400000 in
theorem outside_any {base : Nat} {V : Value} {op : List ByteArray} {w : World} (h : NamesAt base V op w) (ho : op ≠ []) (hl : op.length ≤ 1048576) :
    Calls Tryz.prog 22 #[V] w fun e w' => ∃ V', e = .returned V' ∧ NamesAt base V' op.dropLast w ∧ w' = w := by
  rcases h with ⟨_, h⟩ | ⟨g, cap, cur, rfl, h2, h3, h4, h5, h6⟩
  · exact absurd h ho
  · have hp : 0 < op.length := List.length_pos_iff.2 ho
    obtain ⟨q, hq⟩ : ∃ q, op.length = q + 1 := ⟨op.length - 1, by omega⟩
    have H : Hid (∀ cap', cap' = q → NamesAt base (.slice (some ⟨g, 0, none⟩) q cap') op.dropLast w) := hid (fun cap' hc => Or.inr ⟨g, cap', cur, by simp; omega, h2, h3, by simp; omega, by omega, fun j hj => by
      have : j < op.length := by simp at hj; omega
      rw [h6 j this]; simp⟩)
    rw [hq] at hl h4 ⊢
    clear h2 h3 h6 ho hp hq
    have h7 : (((q + 1 : Nat) : Int) - 1).toNat = q := by omega
    have h8 : ((q + 1 : Nat) : Int) - 1 = (q : Int) := by omega
    have h9 : q ≤ cap := by omega
    go_enter Tryz.func22, Tryz.ntmps22
    go_wp2
    go_ret
    exact ⟨_, rfl, H.out _ rfl, rfl⟩
theorem infoS : (Tryz.prog.info? 9).map (fun i => (i.zero, i.size, i.bytes)) = some (some (.string ⟨#[]⟩), 1, 16) := by kernel_rfl
set_option maxRecDepth 100000 in
set_option maxHeartbeats 400000 in
theorem with_any {base : Nat} {V : Value} {op : List ByteArray} {w : World} (h : NamesAt base V op w) (n : ByteArray) (hl : op.length ≤ 1048576) (hbs : base ≤ w.heap.size) :
    Calls Tryz.prog 23 #[V, .string n] w fun e w' => ∃ V', e = .returned V' ∧ NamesAt base V' (op ++ [n]) w' ∧ Below w.heap.size w w' := by
  obtain ⟨i0, hi0, hz0, hz1, hz2⟩ := info_parts infoS
  have I0 := hid hi0
  have I1 := hid hz0
  have I2 := hid hz1
  have I3 := hid hz2
  clear hi0 hz0 hz1 hz2
  obtain ⟨ao, cap, rfl, h1, h2, h3⟩ := h.form
  have hbel : Hid (Below w.heap.size w (w.alloc (.cells #[.string n] 9))) := hid ((Below.refl _ _).alloc (Nat.le_refl _) _)
  have HN : Hid (∀ q u, [Value.string n][q]? = some u → (w.alloc (.cells #[.string n] 9)).cell? ((⟨w.heap.size, 0, none⟩ : Addr).add q) = some u) := hid (World.news_of_block (cs := #[.string n]) (heap_alloc_new w _))
  have HOld : Hid (∀ b, ao = some b → ∀ j u, (op.map Value.string)[j]? = some u → (w.alloc (.cells #[.string n] 9)).cell? (b.add j) = some u) := hid (fun b hb j u hu => by
    obtain ⟨g, rfl, _, hg, hc⟩ := h3 b hb
    have hj : j < op.length := by
      by_cases hj : j < op.length
      · exact hj
      · rw [List.getElem?_eq_none (by simpa using hj)] at hu; cases hu
    rw [List.getElem?_eq_getElem (by simpa using hj)] at hu
    simp only [List.getElem_map, Option.some.injEq] at hu
    subst hu
    rw [show (⟨g, 0, none⟩ : Addr).add j = ⟨g, j, none⟩ by simp [Addr.add]; intro h; exact h.symm, World.cell?_alloc_past _ _ _ hg]
    exact hc j hj)
  have FIN : Hid (∀ v' w', w'.ownsRow (w.alloc (.cells #[.string n] 9)).heap.size 9 1 v' (op.length + 1) (op.map Value.string ++ [.string n]) → (w.alloc (.cells #[.string n] 9)).grownBy w' none → NamesAt base v' (op ++ [n]) w' ∧ Below w.heap.size w w') := hid (fun v' w' ho hg => by
    refine ⟨?_, hbel.out.grown hg (by simp) (by simp)⟩
    rcases ho.2 with ⟨_, h0⟩ | ⟨g, cap', cur, rfl, k1, k2, k3, k4, k5, k6⟩
    · simp at h0
    · refine Or.inr ⟨g, cap', cur, by simp, by simp at k1; omega, k2, by simpa using k3, k4, fun j hj => ?_⟩
      have : cur.toList[j]? = (op.map Value.string ++ [.string n])[j]? := by
        rw [← k6, List.getElem?_take_of_lt (by simp at hj; omega)]
      rw [Array.getElem?_toList] at this
      rw [this, show op.map Value.string ++ [Value.string n] = (op ++ [n]).map Value.string by simp, List.getElem?_map, List.getElem?_eq_getElem hj, Option.map_some])
  clear h h3
  have hm : Hid (op.length + 1 ≤ maxLen ∧ (op.length + 1) * 16 ≤ 140737488355328) := hid ⟨by unfold maxLen; omega, by omega⟩
  have hlen : Hid ((op.map Value.string).length = op.length * 1) := hid (by simp)
  have hn2 : Hid (ao = none → op.length = 0 ∧ op.length = 0) := hid (fun q => ⟨(h2 q).1, (h2 q).1⟩)
  clear h2
  go_enter Tryz.func23, Tryz.ntmps23
  go_wp2_with (at_builtin; refine wpList_append_grows _ rfl (.tmp 10) (.tmp 12) 36 rfl 9 i0 (.string ⟨#[]⟩) 1 16 Tryz.underlying36 I0.out I1.out I2.out I3.out rfl (by decide) ao op.length op.length (op.map Value.string) (by simp [Act.eval]) hn2.out hlen.out HOld.out ⟨w.heap.size, 0, none⟩ 1 1 [.string n] rfl rfl HN.out (by simp [Value.oneCell']) (by omega) hm.out.1 hm.out.2 ?_; intro v' w' hown hgrow)
  have F2 := hid (FIN.out _ _ hown hgrow)
  clear hown hgrow
  go_wp2
  go_ret
  exact ⟨_, rfl, F2.out.1, F2.out.2⟩
end Go.Proofs.YtafjffnijonglaaGreatDoor
