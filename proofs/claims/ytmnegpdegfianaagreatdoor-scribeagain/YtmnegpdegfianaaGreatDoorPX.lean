/- The walk of parse.Parse: what is read is what the plain function says, in rows of the call's own; and of the laws' alive. -/
import Derived.Test.YtmnegpdegfianaaGreatDoorLOneE
import Derived.Test.YtmnegpdegfianaaGreatDoorLOneB
import Derived.Test.YtmnegpdegfianaaGreatDoorLFacts3
import Derived.Test.YtmnegpdegfianaaGreatDoorPPlain
import Derived.ArgAppend
import Derived.Test.YtmnegpdegfianaaGreatDoorLFacts4
namespace Go.Proofs.YtmnegpdegfianaaGreatDoor
open Go.RowKit Go.Shelf
theorem one_any (s : ByteArray) (z : Int) (w : World) (ht : Tab w) (hz : s.size ≤ 140737488351232) : Calls Tryz.prog 47 #[.string s, .int .i64 z] w (OnePost w (L.oneP s z)) := by
  by_cases h : z < 0 ∨ (s.size : Int) ≤ z
  · exact one_out s z w h
  · obtain ⟨i, rfl⟩ : ∃ i : Nat, z = (i : Int) := ⟨z.toNat, by omega⟩
    have hi : i < s.size := by omega
    have e : L.oneP s (i : Int) = L.oneN s i := by unfold L.oneP; rw [if_neg h]; simp
    rw [e]
    unfold L.oneN
    cases h1 : L.thereB s i [60, 47] with
    | true => rw [if_pos rfl]; exact one_end s i w ht hi hz (hid h1)
    | false =>
      rw [if_neg (by simp)]
      cases h2 : L.thereB s i [60] with
      | true => rw [if_pos rfl]; exact one_beg s i w ht hi hz (hid h1) (hid h2)
      | false => rw [if_neg (by simp)]; exact one_txt s i w ht hi hz (hid h1) (hid h2)
theorem oneP_nat {s : ByteArray} {i : Nat} (hi : i < s.size) : L.oneP s (i : Int) = L.oneN s i := by
  unfold L.oneP
  rw [if_neg (by omega)]
  simp
/-- Rows of elements of two types are two. -/
theorem rows_two {base base' : Nat} {e e' : TypeId} {size size' : Nat} {v v' : Value} {n n' : Nat} {xs xs' : List Value} {w : World} (h : w.ownsRow base e size v n xs) (h' : w.ownsRow base' e' size' v' n' xs') (ne : e ≠ e') : v.ownBlock = none ∨ v.ownBlock ≠ v'.ownBlock := by
  rcases h.2 with ⟨rfl, _⟩ | ⟨g, cap, cur, rfl, _, hg, _⟩
  · exact Or.inl rfl
  · right
    intro q
    rcases h'.2 with ⟨rfl, _⟩ | ⟨g', cap', cur', rfl, _, hg', _⟩
    · cases q
    · have : g = g' := by simpa [Value.ownBlock] using q
      subst this
      rw [hg] at hg'
      simp only [Option.some.injEq, Obj.cells.injEq] at hg'
      exact ne hg'.2.1

end Go.Proofs.YtmnegpdegfianaaGreatDoor
namespace Go.Proofs.YtmnegpdegfianaaGreatDoor
open Go.RowKit Go.Shelf
abbrev IV := P.Itm × Value
def encI1 (x : IV) : List Value := [.int .i64 x.1.level, .int .i64 x.1.kind, .string x.1.name, .string x.1.text, x.2]
def encI (l : List IV) : List Value := l.flatMap encI1
/-- Items lie in a row of the call's own, and each one's attributes in another. -/
def ItmRow (base : Nat) (V : Value) (l : List IV) (w : World) : Prop :=
  w.ownsRow base 65 5 V l.length (encI l) ∧ ∀ x ∈ l, w.ownsRow base 143 2 x.2 x.1.attrs.length (encL x.1.attrs)
theorem encI_snoc (l : List IV) (x : IV) : encI (l ++ [x]) = encI l ++ encI1 x := by simp [encI]
theorem ItmRow.below {base : Nat} {V : Value} {l : List IV} {w w' : World} (h : ItmRow base V l w) (hb : Below w.heap.size w w') : ItmRow base V l w' := ⟨row_below h.1 hb, fun x hx => row_below (h.2 x hx) hb⟩
/-- Names lie in a row of the call's own, perhaps with more behind them. -/
def NamesAt (base : Nat) (V : Value) (op : List ByteArray) (w : World) : Prop :=
  (V = .slice none 0 0 ∧ op = []) ∨ ∃ g cap cur, V = .slice (some ⟨g, 0, none⟩) op.length cap ∧ base ≤ g ∧ w.heap[g]? = some (.cells cur 9 (0, 0)) ∧ op.length ≤ cap ∧ cap ≤ maxLen ∧ ∀ j (h : j < op.length), cur[j]? = some (.string op[j])
theorem NamesAt.below {base : Nat} {V : Value} {op : List ByteArray} {w w' : World} (h : NamesAt base V op w) (hb : Below w.heap.size w w') : NamesAt base V op w' := by
  rcases h with h | ⟨g, cap, cur, h1, h2, h3, h4⟩
  · exact Or.inl h
  · exact Or.inr ⟨g, cap, cur, h1, h2, by rw [hb.block g (lt_of_block h3)]; exact h3, h4⟩
theorem NamesAt.form {base : Nat} {V : Value} {op : List ByteArray} {w : World} (h : NamesAt base V op w) : ∃ ao cap, V = .slice ao op.length cap ∧ op.length ≤ cap ∧ (ao = none → op.length = 0 ∧ cap = 0) ∧ ∀ b, ao = some b → ∃ g, b = ⟨g, 0, none⟩ ∧ base ≤ g ∧ g < w.heap.size ∧ ∀ j (h : j < op.length), w.cell? ⟨g, j, none⟩ = some (.string op[j]) := by
  rcases h with ⟨rfl, rfl⟩ | ⟨g, cap, cur, rfl, h2, h3, h4, h5, h6⟩
  · exact ⟨none, 0, rfl, by simp, by simp, by simp⟩
  · refine ⟨some ⟨g, 0, none⟩, cap, rfl, h4, by simp, fun b hb => ⟨g, by simpa using hb.symm, h2, lt_of_block h3, fun j hj => ?_⟩⟩
    rw [cell_of_row w g j _ _ _ h3]
    exact h6 j hj
theorem row_set {base e : Nat} {e' : TypeId} {size : Nat} {v : Value} {n : Nat} {xs : List Value} {w : World} {b j : Nat} {cs : Array Value} {fz : Nat × Nat} {u : Value} (h : w.ownsRow base e size v n xs) (hb : w.heap[b]? = some (.cells cs e' fz)) (ne : e ≠ e') : (w.setCell ⟨b, j, none⟩ u).ownsRow base e size v n xs := by
  obtain ⟨h1, h2⟩ := h
  refine ⟨h1, ?_⟩
  rcases h2 with h2 | ⟨g, cap, cur, h3, h4, h5, h6⟩
  · exact Or.inl h2
  · refine Or.inr ⟨g, cap, cur, h3, h4, ?_, h6⟩
    rw [heap_setCell_other w ⟨b, j, none⟩ g u (fun q => by
      have q' : g = b := q
      rw [q', hb] at h5
      simp only [Option.some.injEq, Obj.cells.injEq] at h5
      exact ne h5.2.1.symm)]
    exact h5
theorem names_set {base : Nat} {e' : TypeId} {V : Value} {op : List ByteArray} {w : World} {b j : Nat} {cs : Array Value} {fz : Nat × Nat} {u : Value} (h : NamesAt base V op w) (hb : w.heap[b]? = some (.cells cs e' fz)) (ne : 9 ≠ e') : NamesAt base V op (w.setCell ⟨b, j, none⟩ u) := by
  rcases h with h | ⟨g, cap, cur, h1, h2, h3, h4⟩
  · exact Or.inl h
  · refine Or.inr ⟨g, cap, cur, h1, h2, ?_, h4⟩
    rw [heap_setCell_other w ⟨b, j, none⟩ g u (fun q => by
      have q' : g = b := q
      rw [q', hb] at h3
      simp only [Option.some.injEq, Obj.cells.injEq] at h3
      exact ne h3.2.1.symm)]
    exact h3
/-- A draft lies at block b of a world that goes back to W0. -/
structure DR (W0 : World) (b : Nat) (VI VN : Value) (its : List IV) (op : List ByteArray) (w : World) : Prop where
  tab : Tab W0
  low : W0.heap.size ≤ b
  bel : Below W0.heap.size W0 w
  obj : w.heap[b]? = some (.cells #[VI, VN] 90 (0, 0))
  itm : ItmRow W0.heap.size VI its w
  nam : NamesAt W0.heap.size VN op w
section
variable {W0 : World} {b : Nat} {VI VN : Value} {its : List IV} {op : List ByteArray} {w : World}
theorem DR.lt (h : DR W0 b VI VN its op w) : b < w.heap.size := lt_of_block h.obj
theorem DR.tabw (h : DR W0 b VI VN its op w) : Tab w := h.tab.below h.bel
theorem DR.cell (h : DR W0 b VI VN its op w) (j : Nat) : w.cell? ⟨b, j, none⟩ = #[VI, VN][j]? := cell_of_row w b j _ _ _ h.obj
theorem DR.frozen (h : DR W0 b VI VN its op w) (j : Nat) : w.frozen? ⟨b, j, none⟩ = false := frozen_of_row w b j _ _ h.obj
theorem DR.below (h : DR W0 b VI VN its op w) {w' : World} (hb : Below w.heap.size w w') : DR W0 b VI VN its op w' :=
  ⟨h.tab, h.low, h.bel.trans (hb.mono (Nat.le_of_lt (Nat.lt_of_le_of_lt h.low h.lt))), by rw [hb.block b h.lt]; exact h.obj, h.itm.below hb, h.nam.below hb⟩
theorem DR.new (h : DR W0 b VI VN its op w) (o : Obj) : DR W0 b VI VN its op (w.alloc o) := h.below ((Below.refl _ _).alloc (Nat.le_refl _) o)
theorem DR.drewN (h : DR W0 b VI VN its op w) (m : Nat) : DR W0 b VI VN its op (w.drewN m) :=
  ⟨h.tab, h.low, ⟨h.bel.os, h.bel.tape, h.bel.output, h.bel.size, h.bel.block⟩, h.obj, h.itm, h.nam⟩
theorem DR.setN (h : DR W0 b VI VN its op w) {VN' : Value} {op' : List ByteArray} (hn : NamesAt W0.heap.size VN' op' w) : DR W0 b VI VN' its op' (w.setCell ⟨b, 1, none⟩ VN') :=
  ⟨h.tab, h.low, h.bel.setCell (p := ⟨b, 1, none⟩) h.low _, by rw [heap_setCell_same w b 1 _ _ VN' h.obj]; rfl,
    ⟨row_set h.itm.1 h.obj (by decide), fun x hx => row_set (h.itm.2 x hx) h.obj (by decide)⟩, names_set hn h.obj (by decide)⟩
theorem DR.setI (h : DR W0 b VI VN its op w) {VI' : Value} {its' : List IV} (hn : ItmRow W0.heap.size VI' its' w) : DR W0 b VI' VN its' op (w.setCell ⟨b, 0, none⟩ VI') :=
  ⟨h.tab, h.low, h.bel.setCell (p := ⟨b, 0, none⟩) h.low _, by rw [heap_setCell_same w b 0 _ _ VI' h.obj]; rfl,
    ⟨row_set hn.1 h.obj (by decide), fun x hx => row_set (hn.2 x hx) h.obj (by decide)⟩, names_set h.nam h.obj (by decide)⟩
end

set_option maxRecDepth 100000 in
set_option maxHeartbeats 400000 in
theorem closes_any {base : Nat} {V : Value} {op : List ByteArray} {w : World} (h : NamesAt base V op w) (n : ByteArray) (hl : op.length ≤ 1048576) :
    Calls Tryz.prog 88 #[V, .string n] w fun e w' => e = .returned (.bool (P.closesB op n)) ∧ w' = w := by
  obtain ⟨ao, cap, rfl, h1, h2, h3⟩ := h.form
  clear h
  rcases List.eq_nil_or_concat op with rfl | ⟨l, a, rfl⟩
  · clear h3
    go_enter Tryz.func88, Tryz.ntmps88
    go_wp2
    go_ret
    exact ⟨rfl, rfl⟩
  · simp only [List.concat_eq_append] at *
    obtain ⟨g, rfl⟩ : ∃ g, ao = some ⟨g, 0, none⟩ := by
      cases ao with
      | none => have := (h2 rfl).1; simp at this
      | some x => obtain ⟨g, rfl, _⟩ := h3 x rfl; exact ⟨g, rfl⟩
    obtain ⟨g', e1, _, _, hc⟩ := h3 _ rfl
    simp only [Addr.mk.injEq, and_true] at e1
    subst e1
    have c0 : w.cell? ⟨g, l.length, none⟩ = some (.string a) := by have := hc l.length (by simp); simpa using this
    have E : Hid ((a.toList == n.toList) = P.closesB (l ++ [a]) n) := hid (by
      rw [str_eq]
      unfold P.closesB
      simp)
    clear h2 h3 hc
    simp only [List.length_append, List.length_cons, List.length_nil, Nat.zero_add] at hl h1 ⊢
    generalize P.closesB (l ++ [a]) n = r at *
    generalize l.length = q at *
    have h4 : (0 : Int) < ((q + 1 : Nat) : Int) := by omega
    have h5 : (((q + 1 : Nat) : Int) - 1).toNat = q := by omega
    have h6 : ((q + 1 : Nat) : Int) - 1 = (q : Int) := by omega
    go_enter Tryz.func88, Tryz.ntmps88
    go_wp2
    go_ret
    exact ⟨ret_bool E.out, rfl⟩
set_option maxRecDepth 100000 in
set_option maxHeartbeats 400000 in
theorem outside_any {base : Nat} {V : Value} {op : List ByteArray} {w : World} (h : NamesAt base V op w) (ho : op ≠ []) (hl : op.length ≤ 1048576) :
    Calls Tryz.prog 89 #[V] w fun e w' => ∃ V', e = .returned V' ∧ NamesAt base V' op.dropLast w ∧ w' = w := by
  rcases h with ⟨_, h⟩ | ⟨g, cap, cur, rfl, h2, h3, h4, h5, h6⟩
  · exact absurd h ho
  · have hp : 0 < op.length := List.length_pos_iff.2 ho
    obtain ⟨q, hq⟩ : ∃ q, op.length = q + 1 := ⟨op.length - 1, by omega⟩
    have H : Hid (∀ cap', cap' = q → NamesAt base (.slice (some ⟨g, 0, none⟩) q cap') op.dropLast w) := hid (fun cap' hc => Or.inr ⟨g, cap', cur, by simp; omega, h2, h3, by simp; omega, by omega, fun j hj => by
      have : j < op.length := by simp at hj; omega
      rw [h6 j this]; simp⟩)
    rw [hq] at hl h4 ⊢
    clear h2 h3 h6 ho hp hq
    have h7 : (((q + 1 : Nat) : Int) - 1).toNat = q := by omega
    have h8 : ((q + 1 : Nat) : Int) - 1 = (q : Int) := by omega
    have h9 : q ≤ cap := by omega
    go_enter Tryz.func89, Tryz.ntmps89
    go_wp2
    go_ret
    exact ⟨_, rfl, H.out _ rfl, rfl⟩
theorem infoS : (Tryz.prog.info? 9).map (fun i => (i.zero, i.size, i.bytes)) = some (some (.string ⟨#[]⟩), 1, 16) := by kernel_rfl
set_option maxRecDepth 100000 in
set_option maxHeartbeats 400000 in
theorem with_any {base : Nat} {V : Value} {op : List ByteArray} {w : World} (h : NamesAt base V op w) (n : ByteArray) (hl : op.length ≤ 1048576) (hbs : base ≤ w.heap.size) :
    Calls Tryz.prog 90 #[V, .string n] w fun e w' => ∃ V', e = .returned V' ∧ NamesAt base V' (op ++ [n]) w' ∧ Below w.heap.size w w' := by
  obtain ⟨i0, hi0, hz0, hz1, hz2⟩ := info_parts infoS
  have I0 := hid hi0
  have I1 := hid hz0
  have I2 := hid hz1
  have I3 := hid hz2
  clear hi0 hz0 hz1 hz2
  obtain ⟨ao, cap, rfl, h1, h2, h3⟩ := h.form
  have hbel : Hid (Below w.heap.size w (w.alloc (.cells #[.string n] 9))) := hid ((Below.refl _ _).alloc (Nat.le_refl _) _)
  have HN : Hid (∀ q u, [Value.string n][q]? = some u → (w.alloc (.cells #[.string n] 9)).cell? ((⟨w.heap.size, 0, none⟩ : Addr).add q) = some u) := hid (World.news_of_block (cs := #[.string n]) (heap_alloc_new w _))
  have HOld : Hid (∀ b, ao = some b → ∀ j u, (op.map Value.string)[j]? = some u → (w.alloc (.cells #[.string n] 9)).cell? (b.add j) = some u) := hid (fun b hb j u hu => by
    obtain ⟨g, rfl, _, hg, hc⟩ := h3 b hb
    have hj : j < op.length := by
      by_cases hj : j < op.length
      · exact hj
      · rw [List.getElem?_eq_none (by simpa using hj)] at hu; cases hu
    rw [List.getElem?_eq_getElem (by simpa using hj)] at hu
    simp only [List.getElem_map, Option.some.injEq] at hu
    subst hu
    rw [show (⟨g, 0, none⟩ : Addr).add j = ⟨g, j, none⟩ by simp [Addr.add]; intro h; exact h.symm, World.cell?_alloc_past _ _ _ hg]
    exact hc j hj)
  have FIN : Hid (∀ v' w', w'.ownsRow (w.alloc (.cells #[.string n] 9)).heap.size 9 1 v' (op.length + 1) (op.map Value.string ++ [.string n]) → (w.alloc (.cells #[.string n] 9)).grownBy w' none → NamesAt base v' (op ++ [n]) w' ∧ Below w.heap.size w w') := hid (fun v' w' ho hg => by
    refine ⟨?_, hbel.out.grown hg (by simp) (by simp)⟩
    rcases ho.2 with ⟨_, h0⟩ | ⟨g, cap', cur, rfl, k1, k2, k3, k4, k5, k6⟩
    · simp at h0
    · refine Or.inr ⟨g, cap', cur, by simp, by simp at k1; omega, k2, by simpa using k3, k4, fun j hj => ?_⟩
      have : cur.toList[j]? = (op.map Value.string ++ [.string n])[j]? := by
        rw [← k6, List.getElem?_take_of_lt (by simp at hj; omega)]
      rw [Array.getElem?_toList] at this
      rw [this, show op.map Value.string ++ [Value.string n] = (op ++ [n]).map Value.string by simp, List.getElem?_map, List.getElem?_eq_getElem hj, Option.map_some])
  clear h h3
  have hm : Hid (op.length + 1 ≤ maxLen ∧ (op.length + 1) * 16 ≤ 140737488355328) := hid ⟨by unfold maxLen; omega, by omega⟩
  have hlen : Hid ((op.map Value.string).length = op.length * 1) := hid (by simp)
  have hn2 : Hid (ao = none → op.length = 0 ∧ op.length = 0) := hid (fun q => ⟨(h2 q).1, (h2 q).1⟩)
  clear h2
  go_enter Tryz.func90, Tryz.ntmps90
  go_wp2_with (at_builtin; refine wpList_append_grows _ rfl (.tmp 10) (.tmp 12) 88 rfl 9 i0 (.string ⟨#[]⟩) 1 16 Tryz.underlying88 I0.out I1.out I2.out I3.out rfl (by decide) ao op.length op.length (op.map Value.string) (by simp [Act.eval]) hn2.out hlen.out HOld.out ⟨w.heap.size, 0, none⟩ 1 1 [.string n] rfl rfl HN.out (by simp [Value.oneCell']) (by omega) hm.out.1 hm.out.2 ?_; intro v' w' hown hgrow)
  have F2 := hid (FIN.out _ _ hown hgrow)
  clear hown hgrow
  go_wp2
  go_ret
  exact ⟨_, rfl, F2.out.1, F2.out.2⟩
end Go.Proofs.YtmnegpdegfianaaGreatDoor
namespace Go.Proofs.YtmnegpdegfianaaGreatDoor
open Go.RowKit Go.Shelf
def itmV (x : P.Itm) (v : Value) : Value := .agg #[.int .i64 x.level, .int .i64 x.kind, .string x.name, .string x.text, v]
theorem infoI : (Tryz.prog.info? 65).map (fun i => (i.zero, i.size, i.bytes)) = some (some (.agg #[.int .i64 0, .int .i64 0, .string ⟨#[]⟩, .string ⟨#[]⟩, .slice none 0 0]), 5, 72) := by kernel_rfl
theorem one_fiveI (x : IV) (h : x.2.oneCell' = true) : ∀ u ∈ encI1 x, u.oneCell' = true := by
  intro u hu
  simp only [encI1, List.mem_cons, List.not_mem_nil, or_false] at hu
  rcases hu with rfl | rfl | rfl | rfl | rfl <;> first | rfl | exact h
section
variable {W0 : World} {b : Nat} {VI VN : Value} {its : List IV} {op : List ByteArray} {w : World}
/-- What an append to the items leaves as it was. -/
theorem DR.grow (h : DR W0 b VI VN its op w) {w' : World} (hg : w.grownBy w' VI.ownBlock) : w'.heap[b]? = some (.cells #[VI, VN] 90 (0, 0)) ∧ NamesAt W0.heap.size VN op w' ∧ Below W0.heap.size W0 w' := by
  have own : ∀ (c : Nat) (cs : Array Value) (e : TypeId) (fz : Nat × Nat), w.heap[c]? = some (.cells cs e fz) → e ≠ 65 → some c ≠ VI.ownBlock := by
    intro c cs e fz hc ne q
    rcases h.itm.1.2 with ⟨rfl, _⟩ | ⟨g, cap, cur, rfl, _, hg', _⟩
    · cases q
    · have : c = g := by simpa [Value.ownBlock] using q
      subst this
      rw [hc] at hg'
      simp only [Option.some.injEq, Obj.cells.injEq] at hg'
      exact ne hg'.2.1
  refine ⟨by rw [hg.block b h.lt (own b _ _ _ h.obj (by decide))]; exact h.obj, ?_, h.bel.grown hg (Nat.le_of_lt (Nat.lt_of_le_of_lt h.low h.lt)) fun k hk => (World.ownsRow.lt h.itm.1 k hk).1⟩
  rcases h.nam with h' | ⟨g, cap, cur, h1, h2, h3, h4⟩
  · exact Or.inl h'
  · exact Or.inr ⟨g, cap, cur, h1, h2, by rw [hg.block g (lt_of_block h3) (own g _ _ _ h3 (by decide))]; exact h3, h4⟩
theorem DR.form (h : DR W0 b VI VN its op w) : ∃ ao cap, VI = .slice ao its.length cap := by
  rcases h.itm.1.2 with ⟨h, h'⟩ | ⟨_, _, _, h, _⟩
  · exact ⟨none, 0, by rw [h, h']⟩
  · exact ⟨_, _, h⟩
theorem DR.formN (h : DR W0 b VI VN its op w) : ∃ ao cap, VN = .slice ao op.length cap := by
  obtain ⟨ao, cap, e, _⟩ := h.nam.form
  exact ⟨ao, cap, e⟩
theorem DR.turn {w1 : World} (h : DR W0 b VI VN its op w1) (g : w.heap[b]? = some (.cells #[VI, VN] 90 (0, 0)) ∧ NamesAt W0.heap.size VN op w ∧ Below W0.heap.size W0 w) {VI' : Value} {its' : List IV} (hn : ItmRow W0.heap.size VI' its' w) : DR W0 b VI' VN its' op (w.setCell ⟨b, 0, none⟩ VI') :=
  ⟨h.tab, h.low, g.2.2.setCell (p := ⟨b, 0, none⟩) h.low _, by rw [heap_setCell_same w b 0 _ _ VI' g.1]; rfl,
    ⟨row_set hn.1 g.1 (by decide), fun x hx => row_set (hn.2 x hx) g.1 (by decide)⟩, names_set g.2.1 g.1 (by decide)⟩
set_option maxRecDepth 100000 in
set_option maxHeartbeats 1000000 in
theorem add_bad (R : Hid (DR W0 b VI VN its op w)) (x : P.Itm) (v : Value) (hv : ∃ ao nn cp, v = .slice ao nn cp) (hl : its.length ≤ 1048576) (e0 : Int) (HE : Hid (P.addE its.length x = e0)) (he : e0 ≠ 0) :
    Calls Tryz.prog 91 #[.pointer (some ⟨b, 0, none⟩), itmV x v] w fun e w' => e = .returned (.int .i64 e0) ∧ Below w.heap.size w w' := by
  obtain ⟨ao, nn, cp, rfl⟩ := hv
  obtain ⟨aoI, capI, rfl⟩ := R.out.form
  obtain ⟨lv, kd, nm, tx, ats⟩ := x
  have c0 := R.out.cell 0
  simp only [List.getElem?_toArray, List.getElem?_cons_zero] at c0
  have R1 : Hid (Below w.heap.size w (w.alloc (.cells #[.int .i64 lv, .int .i64 kd, .string nm, .string tx, .slice ao nn cp] 65))) := hid ((Below.refl _ _).alloc (Nat.le_refl _) _)
  have hb := R.out.lt
  have c1 : (w.alloc (.cells #[.int .i64 lv, .int .i64 kd, .string nm, .string tx, .slice ao nn cp] 65)).cell? ⟨b, 0, none⟩ = some (.slice aoI its.length capI) := by rw [World.cell?_alloc_past _ _ _ hb]; exact c0
  clear R c0 hb
  have HE2 := HE.out
  unfold P.addE at HE2
  dsimp only at HE2
  clear HE
  unfold itmV
  generalize its.length = m at *
  by_cases h0 : lv = 0
  · subst h0
    by_cases hm : m = 0
    · subst hm
      by_cases hk : kd = 2
      · subst hk
        obtain rfl : e0 = 40 := by simpa using HE2.symm
        clear HE2 he
        go_enter Tryz.func91, Tryz.ntmps91
        go_wp2
        go_ret
        exact ⟨rfl, R1.out⟩
      · exact absurd (by simpa [hk] using HE2.symm) he
    · have hm' : (0 : Int) < (m : Int) := by omega
      obtain rfl : e0 = 40 := by simpa [hm] using HE2.symm
      clear HE2 he
      go_enter Tryz.func91, Tryz.ntmps91
      go_wp2
      go_ret
      exact ⟨rfl, R1.out⟩
  · have h0' : (lv == 0) = false := beq_eq_false_iff_ne.2 h0
    rw [if_neg (by simp [h0])] at HE2
    by_cases h4 : 40 ≤ lv
    · obtain rfl : e0 = 42 := by simpa [h4] using HE2.symm
      clear HE2 he h0
      go_enter Tryz.func91, Tryz.ntmps91
      go_wp2
      go_ret
      exact ⟨rfl, R1.out⟩
    · rw [if_neg h4] at HE2
      by_cases h5 : 1000 ≤ m
      · have h5' : (1000 : Int) ≤ (m : Int) := by omega
        obtain rfl : e0 = 43 := by simpa [h5] using HE2.symm
        clear HE2 he h0
        go_enter Tryz.func91, Tryz.ntmps91
        go_wp2
        go_ret
        exact ⟨rfl, R1.out⟩
      · exact absurd (by simpa [h5] using HE2.symm) he
set_option maxRecDepth 100000 in
set_option maxHeartbeats 4000000 in
theorem add_ok (R : Hid (DR W0 b VI VN its op w)) (x : P.Itm) (v : Value) (hv : ∃ ao nn cp, v = .slice ao nn cp) (HA : Hid (w.ownsRow W0.heap.size 143 2 v x.attrs.length (encL x.attrs))) (hl : its.length ≤ 1048576) (HE : Hid (P.addE its.length x = 0)) :
    Calls Tryz.prog 91 #[.pointer (some ⟨b, 0, none⟩), itmV x v] w fun e w' => e = .returned (.int .i64 0) ∧ ∃ VI', DR W0 b VI' VN (its ++ [(x, v)]) op w' := by
  obtain ⟨i0, hi0, hz0, hz1, hz2⟩ := info_parts infoI
  have I0 := hid hi0
  have I1 := hid hz0
  have I2 := hid hz1
  have I3 := hid hz2
  clear hi0 hz0 hz1 hz2
  obtain ⟨ao, nn, cp, rfl⟩ := hv
  obtain ⟨aoI, capI, rfl⟩ := R.out.form
  obtain ⟨lv, kd, nm, tx, ats⟩ := x
  have c0 := R.out.cell 0
  simp only [List.getElem?_toArray, List.getElem?_cons_zero] at c0
  have R1 := hid (R.out.new (.cells #[.int .i64 lv, .int .i64 kd, .string nm, .string tx, .slice ao nn cp] 65))
  have A1 : Hid ((w.alloc (.cells #[.int .i64 lv, .int .i64 kd, .string nm, .string tx, .slice ao nn cp] 65)).ownsRow W0.heap.size 143 2 (.slice ao nn cp) ats.length (encL ats)) := hid (World.ownsRow.alloc HA.out _)
  have hb := R.out.lt
  have hbs : w.heap.size < (w.alloc (.cells #[.int .i64 lv, .int .i64 kd, .string nm, .string tx, .slice ao nn cp] 65)).heap.size := by simp
  have nw := heap_alloc_new w (.cells #[.int .i64 lv, .int .i64 kd, .string nm, .string tx, .slice ao nn cp] 65)
  have k0 : (w.alloc (.cells #[.int .i64 lv, .int .i64 kd, .string nm, .string tx, .slice ao nn cp] 65)).cell? ⟨w.heap.size, 0, none⟩ = some (.int .i64 lv) := by rw [cell_of_row _ w.heap.size 0 _ _ _ nw]; rfl
  have k1 : (w.alloc (.cells #[.int .i64 lv, .int .i64 kd, .string nm, .string tx, .slice ao nn cp] 65)).cell? ⟨w.heap.size, 1, none⟩ = some (.int .i64 kd) := by rw [cell_of_row _ w.heap.size 1 _ _ _ nw]; rfl
  have k2 : (w.alloc (.cells #[.int .i64 lv, .int .i64 kd, .string nm, .string tx, .slice ao nn cp] 65)).cell? ⟨w.heap.size, 2, none⟩ = some (.string nm) := by rw [cell_of_row _ w.heap.size 2 _ _ _ nw]; rfl
  have k3 : (w.alloc (.cells #[.int .i64 lv, .int .i64 kd, .string nm, .string tx, .slice ao nn cp] 65)).cell? ⟨w.heap.size, 3, none⟩ = some (.string tx) := by rw [cell_of_row _ w.heap.size 3 _ _ _ nw]; rfl
  have k4 : (w.alloc (.cells #[.int .i64 lv, .int .i64 kd, .string nm, .string tx, .slice ao nn cp] 65)).cell? ⟨w.heap.size, 4, none⟩ = some (.slice ao nn cp) := by rw [cell_of_row _ w.heap.size 4 _ _ _ nw]; rfl
  have HE2 := HE.out
  unfold P.addE at HE2
  dsimp only at HE2
  have hlt : lv < 40 ∧ its.length < 1000 ∧ (lv = 0 → its.length = 0 ∧ (kd == 2) = false) := by
    split at HE2
    · simp at HE2
    · rename_i h1
      split at HE2
      · simp at HE2
      · split at HE2
        · simp at HE2
        · refine ⟨by omega, by omega, fun q => ⟨?_, beq_eq_false_iff_ne.2 fun q2 => h1 ⟨q, Or.inr q2⟩⟩⟩
          by_cases q2 : its.length = 0
          · exact q2
          · exact absurd ⟨q, Or.inl q2⟩ h1
  clear HE HE2 HA R c0 nw
  unfold itmV
  obtain ⟨l1, l2, l3⟩ := hlt
  have c1 : (w.alloc (.cells #[.int .i64 lv, .int .i64 kd, .string nm, .string tx, .slice ao nn cp] 65)).cell? ⟨b, 0, none⟩ = some (.slice aoI its.length capI) := by
    have c1 := R1.out.cell 0
    simpa only [List.getElem?_toArray, List.getElem?_cons_zero] using c1
  have l2' : ¬ (1000 : Int) ≤ (its.length : Int) := by omega
  have l1' : ¬ (40 : Int) ≤ lv := by omega
  go_enter Tryz.func91, Tryz.ntmps91
  by_cases h0 : lv = 0
  · subst h0
    obtain ⟨m0, kd2⟩ := l3 rfl
    have m1 : its = [] := List.length_eq_zero_iff.1 m0
    subst m1
    clear m0 l3 l2 l2'
    simp only [List.length_nil] at R1 c1
    go_wp2
    generalize w.alloc (.cells #[.int .i64 0, .int .i64 kd, .string nm, .string tx, .slice ao nn cp] 65) = W1 at *
    generalize w.heap.size = B at *
    have HO : Hid ((W1.alloc (Obj.cells #[.int .i64 0, .int .i64 kd, .string nm, .string tx, .slice ao nn cp] 65)).drew.ownsRow W0.heap.size 65 5 (.slice aoI 0 capI) 0 (encI [])) := hid (R1.out.new _).itm.1
    have HN : Hid (∀ q u, [Value.int .i64 0, .int .i64 kd, .string nm, .string tx, .slice ao nn cp][q]? = some u → (W1.alloc (Obj.cells #[.int .i64 0, .int .i64 kd, .string nm, .string tx, .slice ao nn cp] 65)).drew.cell? ((⟨W1.heap.size, 0, none⟩ : Addr).add q) = some u) :=
      hid (World.news_of_block (w := (W1.alloc (Obj.cells #[.int .i64 0, .int .i64 kd, .string nm, .string tx, .slice ao nn cp] 65)).drew) (cs := #[.int .i64 0, .int .i64 kd, .string nm, .string tx, .slice ao nn cp]) (heap_alloc_new W1 _))
    have a0 : (W1.alloc (Obj.cells #[.int .i64 0, .int .i64 kd, .string nm, .string tx, .slice ao nn cp] 65)).cell? ⟨b, 0, none⟩ = some (.slice aoI 0 capI) := by rw [World.cell?_alloc_past _ _ _ R1.out.lt]; exact c1
    have q0 : (W1.alloc (Obj.cells #[.int .i64 0, .int .i64 kd, .string nm, .string tx, .slice ao nn cp] 65)).cell? ⟨B, 0, none⟩ = some (.int .i64 0) := by rw [World.cell?_alloc_past _ _ _ hbs]; exact k0
    have q1 : (W1.alloc (Obj.cells #[.int .i64 0, .int .i64 kd, .string nm, .string tx, .slice ao nn cp] 65)).cell? ⟨B, 1, none⟩ = some (.int .i64 kd) := by rw [World.cell?_alloc_past _ _ _ hbs]; exact k1
    have q2 : (W1.alloc (Obj.cells #[.int .i64 0, .int .i64 kd, .string nm, .string tx, .slice ao nn cp] 65)).cell? ⟨B, 2, none⟩ = some (.string nm) := by rw [World.cell?_alloc_past _ _ _ hbs]; exact k2
    have q3 : (W1.alloc (Obj.cells #[.int .i64 0, .int .i64 kd, .string nm, .string tx, .slice ao nn cp] 65)).cell? ⟨B, 3, none⟩ = some (.string tx) := by rw [World.cell?_alloc_past _ _ _ hbs]; exact k3
    have q4 : (W1.alloc (Obj.cells #[.int .i64 0, .int .i64 kd, .string nm, .string tx, .slice ao nn cp] 65)).cell? ⟨B, 4, none⟩ = some (.slice ao nn cp) := by rw [World.cell?_alloc_past _ _ _ hbs]; exact k4
    have hm : Hid (0 + 1 ≤ maxLen ∧ (0 + 1) * 72 ≤ 140737488355328 ∧ W0.heap.size ≤ W1.heap.size + 1) := hid ⟨by unfold maxLen; omega, by omega, by have := R1.out.bel.size; omega⟩
    go_region_law (
      refine step_append_lies _ rfl (.tmp 37) (.tmp 39) 22 rfl W0.heap.size 65 i0 (.agg #[.int .i64 0, .int .i64 0, .string ⟨#[]⟩, .string ⟨#[]⟩, .slice none 0 0]) 5 72 Tryz.underlying22 I0.out I1.out I2.out I3.out rfl (by decide) _ 0 (encI []) rfl HO.out ⟨W1.heap.size, 0, none⟩ 1 1 [.int .i64 0, .int .i64 kd, .string nm, .string tx, .slice ao nn cp] rfl rfl HN.out (one_fiveI (⟨0, kd, nm, tx, ats⟩, .slice ao nn cp) rfl) (by decide) hm.out.1 hm.out.2.1 (by simpa using hm.out.2.2) (W1.heap.size + 1) (by simp) ?_
      intro g' cap' w4 hown hgrow hgl _
      have G4 := hid (((R1.out.new (.cells #[.int .i64 0, .int .i64 kd, .string nm, .string tx, .slice ao nn cp] 65)).drewN 1).grow hgrow)
      have T4 : Hid (ItmRow W0.heap.size (.slice (some ⟨g', 0, none⟩) (0 + 1) cap') ([] ++ [(⟨0, kd, nm, tx, ats⟩, .slice ao nn cp)]) w4) := hid (by
        refine ⟨by rw [encI_snoc, List.length_append]; exact hown, fun y hy => ?_⟩
        have keep : ∀ {base : Nat} {y : Value} {q : Nat} {xs : List Value}, W1.ownsRow base 143 2 y q xs → w4.ownsRow base 143 2 y q xs := fun {base y q xs} h =>
          World.ownsRow.kept (w := (W1.alloc (Obj.cells #[.int .i64 0, .int .i64 kd, .string nm, .string tx, .slice ao nn cp] 65)).drew) (World.ownsRow.alloc h _) hgrow (rows_two h R1.out.itm.1 (by decide))
        rcases List.mem_append.1 hy with hy | hy
        · exact keep (R1.out.itm.2 y hy)
        · simp only [List.mem_singleton] at hy
          subst hy
          exact keep A1.out)
      have e0 : w4.cell? ⟨b, 0, none⟩ = some (.slice aoI 0 capI) := cell_of_row w4 b 0 _ _ _ G4.out.1
      have h0 : w4.frozen? ⟨b, 0, none⟩ = false := frozen_of_row w4 b 0 _ _ G4.out.1
      clear hown hgrow hgl)
    all_goals
      go_wp2
      go_ret
      exact ⟨rfl, _, DR.turn R1.out G4.out T4.out⟩
  · have h0' : (lv == 0) = false := beq_eq_false_iff_ne.2 h0
    go_wp2
    generalize w.alloc (.cells #[.int .i64 lv, .int .i64 kd, .string nm, .string tx, .slice ao nn cp] 65) = W1 at *
    generalize w.heap.size = B at *
    have HO : Hid ((W1.alloc (Obj.cells #[.int .i64 lv, .int .i64 kd, .string nm, .string tx, .slice ao nn cp] 65)).drew.ownsRow W0.heap.size 65 5 (.slice aoI its.length capI) its.length (encI its)) := hid (R1.out.new _).itm.1
    have HN : Hid (∀ q u, [Value.int .i64 lv, .int .i64 kd, .string nm, .string tx, .slice ao nn cp][q]? = some u → (W1.alloc (Obj.cells #[.int .i64 lv, .int .i64 kd, .string nm, .string tx, .slice ao nn cp] 65)).drew.cell? ((⟨W1.heap.size, 0, none⟩ : Addr).add q) = some u) :=
      hid (World.news_of_block (w := (W1.alloc (Obj.cells #[.int .i64 lv, .int .i64 kd, .string nm, .string tx, .slice ao nn cp] 65)).drew) (cs := #[.int .i64 lv, .int .i64 kd, .string nm, .string tx, .slice ao nn cp]) (heap_alloc_new W1 _))
    have a0 : (W1.alloc (Obj.cells #[.int .i64 lv, .int .i64 kd, .string nm, .string tx, .slice ao nn cp] 65)).cell? ⟨b, 0, none⟩ = some (.slice aoI its.length capI) := by rw [World.cell?_alloc_past _ _ _ R1.out.lt]; exact c1
    have q0 : (W1.alloc (Obj.cells #[.int .i64 lv, .int .i64 kd, .string nm, .string tx, .slice ao nn cp] 65)).cell? ⟨B, 0, none⟩ = some (.int .i64 lv) := by rw [World.cell?_alloc_past _ _ _ hbs]; exact k0
    have q1 : (W1.alloc (Obj.cells #[.int .i64 lv, .int .i64 kd, .string nm, .string tx, .slice ao nn cp] 65)).cell? ⟨B, 1, none⟩ = some (.int .i64 kd) := by rw [World.cell?_alloc_past _ _ _ hbs]; exact k1
    have q2 : (W1.alloc (Obj.cells #[.int .i64 lv, .int .i64 kd, .string nm, .string tx, .slice ao nn cp] 65)).cell? ⟨B, 2, none⟩ = some (.string nm) := by rw [World.cell?_alloc_past _ _ _ hbs]; exact k2
    have q3 : (W1.alloc (Obj.cells #[.int .i64 lv, .int .i64 kd, .string nm, .string tx, .slice ao nn cp] 65)).cell? ⟨B, 3, none⟩ = some (.string tx) := by rw [World.cell?_alloc_past _ _ _ hbs]; exact k3
    have q4 : (W1.alloc (Obj.cells #[.int .i64 lv, .int .i64 kd, .string nm, .string tx, .slice ao nn cp] 65)).cell? ⟨B, 4, none⟩ = some (.slice ao nn cp) := by rw [World.cell?_alloc_past _ _ _ hbs]; exact k4
    have hm : Hid (its.length + 1 ≤ maxLen ∧ (its.length + 1) * 72 ≤ 140737488355328 ∧ W0.heap.size ≤ W1.heap.size + 1) := hid ⟨by unfold maxLen; omega, by omega, by have := R1.out.bel.size; omega⟩
    go_region_law (
      refine step_append_lies _ rfl (.tmp 37) (.tmp 39) 22 rfl W0.heap.size 65 i0 (.agg #[.int .i64 0, .int .i64 0, .string ⟨#[]⟩, .string ⟨#[]⟩, .slice none 0 0]) 5 72 Tryz.underlying22 I0.out I1.out I2.out I3.out rfl (by decide) _ its.length (encI its) rfl HO.out ⟨W1.heap.size, 0, none⟩ 1 1 [.int .i64 lv, .int .i64 kd, .string nm, .string tx, .slice ao nn cp] rfl rfl HN.out (one_fiveI (⟨lv, kd, nm, tx, ats⟩, .slice ao nn cp) rfl) (by decide) hm.out.1 hm.out.2.1 (by simpa using hm.out.2.2) (W1.heap.size + 1) (by simp) ?_
      intro g' cap' w4 hown hgrow hgl _
      have G4 := hid (((R1.out.new (.cells #[.int .i64 lv, .int .i64 kd, .string nm, .string tx, .slice ao nn cp] 65)).drewN 1).grow hgrow)
      have T4 : Hid (ItmRow W0.heap.size (.slice (some ⟨g', 0, none⟩) (its.length + 1) cap') (its ++ [(⟨lv, kd, nm, tx, ats⟩, .slice ao nn cp)]) w4) := hid (by
        refine ⟨by rw [encI_snoc, List.length_append]; exact hown, fun y hy => ?_⟩
        have keep : ∀ {base : Nat} {y : Value} {q : Nat} {xs : List Value}, W1.ownsRow base 143 2 y q xs → w4.ownsRow base 143 2 y q xs := fun {base y q xs} h =>
          World.ownsRow.kept (w := (W1.alloc (Obj.cells #[.int .i64 lv, .int .i64 kd, .string nm, .string tx, .slice ao nn cp] 65)).drew) (World.ownsRow.alloc h _) hgrow (rows_two h R1.out.itm.1 (by decide))
        rcases List.mem_append.1 hy with hy | hy
        · exact keep (R1.out.itm.2 y hy)
        · simp only [List.mem_singleton] at hy
          subst hy
          exact keep A1.out)
      have e0 : w4.cell? ⟨b, 0, none⟩ = some (.slice aoI its.length capI) := cell_of_row w4 b 0 _ _ _ G4.out.1
      have h0 : w4.frozen? ⟨b, 0, none⟩ = false := frozen_of_row w4 b 0 _ _ G4.out.1
      clear hown hgrow hgl)
    all_goals
      go_wp2
      go_ret
      exact ⟨rfl, _, DR.turn R1.out G4.out T4.out⟩
end
end Go.Proofs.YtmnegpdegfianaaGreatDoor
namespace Go.Proofs.YtmnegpdegfianaaGreatDoor
open Go.RowKit Go.Shelf
section
variable {W0 : World} {b : Nat} {VI VN : Value} {its : List IV} {op : List ByteArray} {w : World}
set_option maxRecDepth 100000 in
set_option maxHeartbeats 1000000 in
theorem whole_any (R : Hid (DR W0 b VI VN its op w)) :
    Calls Tryz.prog 49 #[.pointer (some ⟨b, 0, none⟩)] w fun e w' => e = .returned (.int .i64 (if its.length = 0 then 40 else if op.length ≠ 0 then 41 else 0)) ∧ w' = w := by
  obtain ⟨aoI, capI, rfl⟩ := R.out.form
  obtain ⟨aoN, capN, rfl⟩ := R.out.formN
  have c0 := R.out.cell 0
  have c1 := R.out.cell 1
  simp only [List.getElem?_toArray, List.getElem?_cons_zero, List.getElem?_cons_succ] at c0 c1
  clear R
  generalize its.length = m at *
  generalize op.length = n at *
  by_cases hm : m = 0
  · subst hm
    go_enter Tryz.func49, Tryz.ntmps49
    go_wp2
    go_ret
    exact ⟨rfl, rfl⟩
  · rw [if_neg hm]
    have hm' : ((m : Int) == 0) = false := beq_eq_false_iff_ne.2 (by omega)
    by_cases hn : n = 0
    · subst hn
      clear hm
      go_enter Tryz.func49, Tryz.ntmps49
      go_wp2
      go_ret
      exact ⟨rfl, rfl⟩
    · rw [if_pos hn]
      have hn' : (0 : Int) < (n : Int) := by omega
      clear hm hn
      go_enter Tryz.func49, Tryz.ntmps49
      go_wp2
      go_ret
      exact ⟨rfl, rfl⟩
/-- A store into a block of items that is none of the draft's. -/
theorem DR.far (h : DR W0 b VI VN its op w) {c : Nat} {cs : Array Value} (hc : w.heap[c]? = some (.cells cs 65 (0, 0))) (h1 : W0.heap.size ≤ c) (h3 : VI.ownBlock ≠ some c) (j : Nat) (u : Value) : DR W0 b VI VN its op (w.setCell ⟨c, j, none⟩ u) := by
  refine ⟨h.tab, h.low, h.bel.setCell (p := ⟨c, j, none⟩) h1 u, ?_, ⟨?_, fun x hx => row_set (h.itm.2 x hx) hc (by decide)⟩, names_set h.nam hc (by decide)⟩
  · rw [heap_setCell_other w ⟨c, j, none⟩ b u (fun q => by
      have q' : b = c := q
      have := h.obj
      rw [q', hc] at this
      simp only [Option.some.injEq, Obj.cells.injEq] at this
      exact absurd this.2.1 (by decide))]
    exact h.obj
  · obtain ⟨h4, h5⟩ := h.itm.1
    refine ⟨h4, ?_⟩
    rcases h5 with h5 | ⟨g, cap, cur, rfl, h6, h7, h8⟩
    · exact Or.inl h5
    · refine Or.inr ⟨g, cap, cur, rfl, h6, ?_, h8⟩
      rw [heap_setCell_other w ⟨c, j, none⟩ g u (fun q => h3 (by have q' : g = c := q; simp [Value.ownBlock, q']))]
      exact h7
def TakePost (W0 : World) (b : Nat) (w : World) (res : Except Int (List P.Itm × List ByteArray)) (e : Ending) (w' : World) : Prop :=
  (∃ e0, res = .error e0 ∧ e0 ≠ 0 ∧ e = .returned (.int .i64 e0) ∧ Below W0.heap.size W0 w' ∧ ∀ c, c < w.heap.size → c ≠ b → w'.heap[c]? = w.heap[c]?) ∨
  (∃ VI' VN' its' op', res = .ok (its'.map (·.1), op') ∧ e = .returned (.int .i64 0) ∧ DR W0 b VI' VN' its' op' w')
theorem two_new (w : World) (o o' : Obj) : Below w.heap.size w ((w.alloc o).alloc o') := ((Below.refl _ _).alloc (Nat.le_refl _) o).alloc (by simp) o'
set_option maxRecDepth 100000 in
set_option maxHeartbeats 4000000 in
theorem take_end (R : Hid (DR W0 b VI VN its op w)) (t : L.Tok) (v : Value) (hv : ∃ ao nn cp, v = .slice ao nn cp) (hk : t.kind = 2) (ho : op.length ≤ 1048576) :
    Calls Tryz.prog 48 #[.pointer (some ⟨b, 0, none⟩), tokV t v] w (TakePost W0 b w (P.takeP (its.map (·.1)) op t)) := by
  obtain ⟨ao, nn, cp, rfl⟩ := hv
  obtain ⟨kd, ps, nm, tx, ats⟩ := t
  obtain rfl : kd = 2 := hk
  obtain ⟨aoN, capN, rfl⟩ := R.out.formN
  have c1 := R.out.cell 1
  simp only [List.getElem?_toArray, List.getElem?_cons_zero, List.getElem?_cons_succ] at c1
  have hb := R.out.lt
  have d1 : (w.alloc (.cells #[.int .i64 2, .int .i64 (ps : Int), .string nm, .string tx, .slice ao nn cp] 92)).cell? ⟨b, 1, none⟩ = some (.slice aoN op.length capN) := by rw [World.cell?_alloc_past _ _ _ hb]; exact c1
  have R2 := hid ((R.out.new (.cells #[.int .i64 2, .int .i64 (ps : Int), .string nm, .string tx, .slice ao nn cp] 92)).new (.cells #[.int .i64 (op.length : Int), .int .i64 2, .string ⟨#[]⟩, .string tx, .slice none 0 0] 65))
  have d2 := R2.out.cell 1
  have f2 := R2.out.frozen 1
  simp only [List.getElem?_toArray, List.getElem?_cons_zero, List.getElem?_cons_succ] at d2
  clear R c1
  unfold tokV
  go_enter Tryz.func48, Tryz.ntmps48
  go_wp2_with fail
  refine (closes_any R2.out.nam nm ho).mono ?_
  rintro e w1 ⟨rfl, rfl⟩
  cases hc : P.closesB op nm with
  | false =>
    have HR : Hid (P.takeP (its.map (·.1)) op ⟨2, ps, nm, tx, ats⟩ = .error 41) := hid (by simp [P.takeP, hc])
    clear hc
    have HK := hid (two_new w (.cells #[.int .i64 2, .int .i64 (ps : Int), .string nm, .string tx, .slice ao nn cp] 92) (.cells #[.int .i64 (op.length : Int), .int .i64 2, .string ⟨#[]⟩, .string tx, .slice none 0 0] 65))
    go_wp2
    go_ret
    exact Or.inl ⟨41, HR.out, by decide, rfl, R2.out.bel, fun c hc _ => HK.out.block c hc⟩
  | true =>
    have HR : Hid (P.takeP (its.map (·.1)) op ⟨2, ps, nm, tx, ats⟩ = .ok (its.map (·.1), op.dropLast)) := hid (by simp [P.takeP, hc])
    have hne : op ≠ [] := by rintro rfl; simp [P.closesB] at hc
    clear hc d1
    generalize ((w.alloc (.cells #[.int .i64 2, .int .i64 (ps : Int), .string nm, .string tx, .slice ao nn cp] 92)).alloc (.cells #[.int .i64 (op.length : Int), .int .i64 2, .string ⟨#[]⟩, .string tx, .slice none 0 0] 65)) = W1 at *
    go_wp2_with fail
    refine (outside_any R2.out.nam hne ho).mono ?_
    rintro e w1 ⟨V', rfl, hn, rfl⟩
    have R3 := hid (R2.out.setN hn)
    obtain ⟨ao', n', cap', rfl⟩ : ∃ ao n cap, V' = .slice ao n cap := by obtain ⟨ao', cap', h, _⟩ := hn.form; exact ⟨_, _, _, h⟩
    clear hn
    go_wp2
    go_ret
    exact Or.inr ⟨_, _, _, _, HR.out, rfl, R3.out⟩
set_option maxRecDepth 100000 in
set_option maxHeartbeats 4000000 in
theorem take_txt (R : Hid (DR W0 b VI VN its op w)) (t : L.Tok) (v : Value) (hv : ∃ ao nn cp, v = .slice ao nn cp) (hk : t.kind = 4) (hl : its.length ≤ 1048576) :
    Calls Tryz.prog 48 #[.pointer (some ⟨b, 0, none⟩), tokV t v] w (TakePost W0 b w (P.takeP (its.map (·.1)) op t)) := by
  obtain ⟨ao, nn, cp, rfl⟩ := hv
  obtain ⟨kd, ps, nm, tx, ats⟩ := t
  obtain rfl : kd = 4 := hk
  obtain ⟨aoN, capN, rfl⟩ := R.out.formN
  have c1 := R.out.cell 1
  simp only [List.getElem?_toArray, List.getElem?_cons_zero, List.getElem?_cons_succ] at c1
  have hb := R.out.lt
  have d1 : (w.alloc (.cells #[.int .i64 4, .int .i64 (ps : Int), .string nm, .string tx, .slice ao nn cp] 92)).cell? ⟨b, 1, none⟩ = some (.slice aoN op.length capN) := by rw [World.cell?_alloc_past _ _ _ hb]; exact c1
  have R2 := hid ((R.out.new (.cells #[.int .i64 4, .int .i64 (ps : Int), .string nm, .string tx, .slice ao nn cp] 92)).new (.cells #[.int .i64 (op.length : Int), .int .i64 2, .string ⟨#[]⟩, .string tx, .slice none 0 0] 65))
  clear R c1
  unfold tokV
  go_enter Tryz.func48, Tryz.ntmps48
  go_wp2_with fail
  by_cases he : P.addE its.length (P.itemOf op.length ⟨4, ps, nm, tx, ats⟩) = 0
  · have HR : Hid (P.takeP (its.map (·.1)) op ⟨4, ps, nm, tx, ats⟩ = .ok ((its ++ [((P.itemOf op.length ⟨4, ps, nm, tx, ats⟩, Value.slice none 0 0) : IV)]).map (fun y => y.1), op)) := hid (by simp [P.takeP, he])
    refine (add_ok R2 (P.itemOf op.length ⟨4, ps, nm, tx, ats⟩) (.slice none 0 0) ⟨_, _, _, rfl⟩ (hid (World.ownsRow_nil _ _ _ _)) hl (hid he)).mono ?_
    rintro e w1 ⟨rfl, VI', R3⟩
    have R4 := hid R3
    clear R3 he
    go_wp2
    go_ret
    exact Or.inr ⟨_, _, _, _, HR.out, rfl, R4.out⟩
  · have HR : Hid (P.takeP (its.map (·.1)) op ⟨4, ps, nm, tx, ats⟩ = .error (P.addE its.length (P.itemOf op.length ⟨4, ps, nm, tx, ats⟩))) := hid (by simp [P.takeP, he])
    refine (add_bad R2 (P.itemOf op.length ⟨4, ps, nm, tx, ats⟩) (.slice none 0 0) ⟨_, _, _, rfl⟩ hl _ (hid rfl) he).mono ?_
    rintro e w1 ⟨rfl, hb3⟩
    have HB := hid (R2.out.below hb3).bel
    have HK : Hid (∀ c, c < w.heap.size → c ≠ b → w1.heap[c]? = w.heap[c]?) := hid (fun c hc _ => by
      rw [hb3.block c (by simp; omega)]
      exact (two_new w (.cells #[.int .i64 4, .int .i64 (ps : Int), .string nm, .string tx, .slice ao nn cp] 92) (.cells #[.int .i64 (op.length : Int), .int .i64 2, .string ⟨#[]⟩, .string tx, .slice none 0 0] 65)).block c hc)
    have HN := hid he
    clear hb3 he
    generalize P.addE its.length (P.itemOf op.length ⟨4, ps, nm, tx, ats⟩) = e0 at *
    go_wp2
    go_ret
    exact Or.inl ⟨_, HR.out, HN.out, rfl, HB.out, HK.out⟩
set_option maxRecDepth 100000 in
set_option maxHeartbeats 4000000 in
theorem take_both (R : Hid (DR W0 b VI VN its op w)) (t : L.Tok) (v : Value) (hv : ∃ ao nn cp, v = .slice ao nn cp) (HA : Hid (w.ownsRow W0.heap.size 143 2 v t.attrs.length (encL t.attrs))) (hk : t.kind = 3) (hl : its.length ≤ 1048576) :
    Calls Tryz.prog 48 #[.pointer (some ⟨b, 0, none⟩), tokV t v] w (TakePost W0 b w (P.takeP (its.map (·.1)) op t)) := by
  obtain ⟨ao, nn, cp, rfl⟩ := hv
  obtain ⟨kd, ps, nm, tx, ats⟩ := t
  obtain rfl : kd = 3 := hk
  obtain ⟨aoN, capN, rfl⟩ := R.out.formN
  have c1 := R.out.cell 1
  simp only [List.getElem?_toArray, List.getElem?_cons_zero, List.getElem?_cons_succ] at c1
  have hb := R.out.lt
  have d1 : (w.alloc (.cells #[.int .i64 3, .int .i64 (ps : Int), .string nm, .string tx, .slice ao nn cp] 92)).cell? ⟨b, 1, none⟩ = some (.slice aoN op.length capN) := by rw [World.cell?_alloc_past _ _ _ hb]; exact c1
  have A2 : Hid (((w.alloc (.cells #[.int .i64 3, .int .i64 (ps : Int), .string nm, .string tx, .slice ao nn cp] 92)).alloc (.cells #[.int .i64 (op.length : Int), .int .i64 1, .string nm, .string ⟨#[]⟩, .slice ao nn cp] 65)).ownsRow W0.heap.size 143 2 (.slice ao nn cp) ats.length (encL ats)) := hid (World.ownsRow.alloc (World.ownsRow.alloc HA.out _) _)
  have R2 := hid ((R.out.new (.cells #[.int .i64 3, .int .i64 (ps : Int), .string nm, .string tx, .slice ao nn cp] 92)).new (.cells #[.int .i64 (op.length : Int), .int .i64 1, .string nm, .string ⟨#[]⟩, .slice ao nn cp] 65))
  clear R c1 HA
  unfold tokV
  go_enter Tryz.func48, Tryz.ntmps48
  go_wp2_with fail
  by_cases he : P.addE its.length (P.itemOf op.length ⟨3, ps, nm, tx, ats⟩) = 0
  · have HR : Hid (P.takeP (its.map (·.1)) op ⟨3, ps, nm, tx, ats⟩ = .ok ((its ++ [((P.itemOf op.length ⟨3, ps, nm, tx, ats⟩, Value.slice ao nn cp) : IV)]).map (fun y => y.1), op)) := hid (by simp [P.takeP, he])
    refine (add_ok R2 (P.itemOf op.length ⟨3, ps, nm, tx, ats⟩) (.slice ao nn cp) ⟨_, _, _, rfl⟩ A2 hl (hid he)).mono ?_
    rintro e w1 ⟨rfl, VI', R3⟩
    have R4 := hid R3
    clear R3 he
    go_wp2
    go_ret
    exact Or.inr ⟨_, _, _, _, HR.out, rfl, R4.out⟩
  · have HR : Hid (P.takeP (its.map (·.1)) op ⟨3, ps, nm, tx, ats⟩ = .error (P.addE its.length (P.itemOf op.length ⟨3, ps, nm, tx, ats⟩))) := hid (by simp [P.takeP, he])
    refine (add_bad R2 (P.itemOf op.length ⟨3, ps, nm, tx, ats⟩) (.slice ao nn cp) ⟨_, _, _, rfl⟩ hl _ (hid rfl) he).mono ?_
    rintro e w1 ⟨rfl, hb3⟩
    have HB := hid (R2.out.below hb3).bel
    have HK : Hid (∀ c, c < w.heap.size → c ≠ b → w1.heap[c]? = w.heap[c]?) := hid (fun c hc _ => by
      rw [hb3.block c (by simp; omega)]
      exact (two_new w (.cells #[.int .i64 3, .int .i64 (ps : Int), .string nm, .string tx, .slice ao nn cp] 92) (.cells #[.int .i64 (op.length : Int), .int .i64 1, .string nm, .string ⟨#[]⟩, .slice ao nn cp] 65)).block c hc)
    have HN := hid he
    clear hb3 he
    generalize P.addE its.length (P.itemOf op.length ⟨3, ps, nm, tx, ats⟩) = e0 at *
    go_wp2
    go_ret
    exact Or.inl ⟨_, HR.out, HN.out, rfl, HB.out, HK.out⟩
set_option maxRecDepth 100000 in
set_option maxHeartbeats 4000000 in
theorem take_beg (R : Hid (DR W0 b VI VN its op w)) (t : L.Tok) (v : Value) (hv : ∃ ao nn cp, v = .slice ao nn cp) (HA : Hid (w.ownsRow W0.heap.size 143 2 v t.attrs.length (encL t.attrs))) (hk : t.kind = 1) (ho : op.length ≤ 1048575) (hl : its.length ≤ 1048576) :
    Calls Tryz.prog 48 #[.pointer (some ⟨b, 0, none⟩), tokV t v] w (TakePost W0 b w (P.takeP (its.map (·.1)) op t)) := by
  obtain ⟨ao, nn, cp, rfl⟩ := hv
  obtain ⟨kd, ps, nm, tx, ats⟩ := t
  obtain rfl : kd = 1 := hk
  obtain ⟨aoN, capN, rfl⟩ := R.out.formN
  have c1 := R.out.cell 1
  simp only [List.getElem?_toArray, List.getElem?_cons_zero, List.getElem?_cons_succ] at c1
  have hb := R.out.lt
  have hown : VI.ownBlock ≠ some (w.heap.size + 1) := fun q => by have := (World.ownsRow.lt R.out.itm.1 _ q).2; omega
  have d1 : (w.alloc (.cells #[.int .i64 1, .int .i64 (ps : Int), .string nm, .string tx, .slice ao nn cp] 92)).cell? ⟨b, 1, none⟩ = some (.slice aoN op.length capN) := by rw [World.cell?_alloc_past _ _ _ hb]; exact c1
  have A2 : Hid (((w.alloc (.cells #[.int .i64 1, .int .i64 (ps : Int), .string nm, .string tx, .slice ao nn cp] 92)).alloc (.cells #[.int .i64 (op.length : Int), .int .i64 2, .string ⟨#[]⟩, .string tx, .slice none 0 0] 65)).ownsRow W0.heap.size 143 2 (.slice ao nn cp) ats.length (encL ats)) := hid (World.ownsRow.alloc (World.ownsRow.alloc HA.out _) _)
  have R2 := hid ((R.out.new (.cells #[.int .i64 1, .int .i64 (ps : Int), .string nm, .string tx, .slice ao nn cp] 92)).new (.cells #[.int .i64 (op.length : Int), .int .i64 2, .string ⟨#[]⟩, .string tx, .slice none 0 0] 65))
  have bT : Hid (((w.alloc (.cells #[.int .i64 1, .int .i64 (ps : Int), .string nm, .string tx, .slice ao nn cp] 92)).alloc (.cells #[.int .i64 (op.length : Int), .int .i64 2, .string ⟨#[]⟩, .string tx, .slice none 0 0] 65)).heap[w.heap.size]? = some (.cells #[.int .i64 1, .int .i64 (ps : Int), .string nm, .string tx, .slice ao nn cp] 92 (0, 0))) := hid (by rw [Below.heap_alloc _ _ _ (by simp)]; exact heap_alloc_new w _)
  have bI : Hid (((w.alloc (.cells #[.int .i64 1, .int .i64 (ps : Int), .string nm, .string tx, .slice ao nn cp] 92)).alloc (.cells #[.int .i64 (op.length : Int), .int .i64 2, .string ⟨#[]⟩, .string tx, .slice none 0 0] 65)).heap[w.heap.size + 1]? = some (.cells #[.int .i64 (op.length : Int), .int .i64 2, .string ⟨#[]⟩, .string tx, .slice none 0 0] 65 (0, 0))) := hid (by
    have h := heap_alloc_new (w.alloc (.cells #[.int .i64 1, .int .i64 (ps : Int), .string nm, .string tx, .slice ao nn cp] 92)) (.cells #[.int .i64 (op.length : Int), .int .i64 2, .string ⟨#[]⟩, .string tx, .slice none 0 0] 65)
    simpa using h)
  have hW : W0.heap.size ≤ w.heap.size + 1 := by have := R.out.bel.size; omega
  clear R c1 HA
  unfold tokV
  go_enter Tryz.func48, Tryz.ntmps48
  go_wp2_with fail
  refine (with_any R2.out.nam nm (by omega) (by have := R2.out.bel.size; exact this)).mono ?_
  rintro e w1 ⟨V', rfl, hn, hb1⟩
  have R3 := hid ((R2.out.below hb1).setN hn)
  have A3 := hid (row_below A2.out hb1)
  have oB := hid (R2.out.below hb1).obj
  have K1 : Hid (∀ c, c < w.heap.size → w1.heap[c]? = w.heap[c]?) := hid (fun c hc => by
    rw [hb1.block c (by simp; omega)]
    exact (two_new w (.cells #[.int .i64 1, .int .i64 (ps : Int), .string nm, .string tx, .slice ao nn cp] 92) (.cells #[.int .i64 (op.length : Int), .int .i64 2, .string ⟨#[]⟩, .string tx, .slice none 0 0] 65)).block c hc)
  have nB : b < w.heap.size := hb
  have bT1 := hid ((hb1.block _ (lt_of_block bT.out)).trans bT.out)
  have bI1 := hid ((hb1.block _ (lt_of_block bI.out)).trans bI.out)
  obtain ⟨ao', n', cap', rfl⟩ : ∃ ao n cap, V' = .slice ao n cap := by obtain ⟨ao', cap', h, _⟩ := hn.form; exact ⟨_, _, _, h⟩
  have o1 := (R2.out.below hb1).cell 1
  have o2 := (R2.out.below hb1).frozen 1
  simp only [List.getElem?_toArray, List.getElem?_cons_zero, List.getElem?_cons_succ] at o1
  clear hn hb1 R2 bT bI A2 d1 hb
  generalize hB : w.heap.size = B at *
  have HS := hid hB
  clear hB
  have x2 : w1.cell? ⟨B, 2, none⟩ = some (.string nm) := by rw [cell_of_row _ B 2 _ _ _ bT1.out]; rfl
  have x4 : w1.cell? ⟨B, 4, none⟩ = some (.slice ao nn cp) := by rw [cell_of_row _ B 4 _ _ _ bT1.out]; rfl
  have ne1 : b ≠ B := by omega
  have ne2 : b ≠ B + 1 := by omega
  have i0 : w1.cell? ⟨B + 1, 0, none⟩ = some (.int .i64 (op.length : Int)) := by rw [cell_of_row _ (B + 1) 0 _ _ _ bI1.out]; rfl
  have i1 : w1.cell? ⟨B + 1, 1, none⟩ = some (.int .i64 2) := by rw [cell_of_row _ (B + 1) 1 _ _ _ bI1.out]; rfl
  have i2 : w1.cell? ⟨B + 1, 2, none⟩ = some (.string ⟨#[]⟩) := by rw [cell_of_row _ (B + 1) 2 _ _ _ bI1.out]; rfl
  have i3 : w1.cell? ⟨B + 1, 3, none⟩ = some (.string tx) := by rw [cell_of_row _ (B + 1) 3 _ _ _ bI1.out]; rfl
  have i4 : w1.cell? ⟨B + 1, 4, none⟩ = some (.slice none 0 0) := by rw [cell_of_row _ (B + 1) 4 _ _ _ bI1.out]; rfl
  have j0 : w1.frozen? ⟨B + 1, 0, none⟩ = false := frozen_of_row _ (B + 1) 0 _ _ bI1.out
  have j1 : w1.frozen? ⟨B + 1, 1, none⟩ = false := frozen_of_row _ (B + 1) 1 _ _ bI1.out
  have j2 : w1.frozen? ⟨B + 1, 2, none⟩ = false := frozen_of_row _ (B + 1) 2 _ _ bI1.out
  have j3 : w1.frozen? ⟨B + 1, 3, none⟩ = false := frozen_of_row _ (B + 1) 3 _ _ bI1.out
  have j4 : w1.frozen? ⟨B + 1, 4, none⟩ = false := frozen_of_row _ (B + 1) 4 _ _ bI1.out
  have s0 : (w1.setCell ⟨b, 1, none⟩ (.slice ao' n' cap')).heap[B + 1]? = some (.cells #[.int .i64 (op.length : Int), .int .i64 2, .string ⟨#[]⟩, .string tx, .slice none 0 0] 65 (0, 0)) := by rw [heap_setCell_other _ ⟨b, 1, none⟩ (B + 1) _ (Ne.symm ne2)]; exact bI1.out
  have r0 := R3.out.far s0 hW hown 0 (.int .i64 (op.length : Int))
  have s1 := heap_setCell_same _ (B + 1) 0 _ _ (.int .i64 (op.length : Int)) s0
  have r1 := r0.far s1 hW hown 1 (.int .i64 1)
  have s2 := heap_setCell_same _ (B + 1) 1 _ _ (.int .i64 1) s1
  have r2 := r1.far s2 hW hown 2 (.string nm)
  have s3 := heap_setCell_same _ (B + 1) 2 _ _ (.string nm) s2
  have r3 := r2.far s3 hW hown 3 (.string ⟨#[]⟩)
  have s4 := heap_setCell_same _ (B + 1) 3 _ _ (.string ⟨#[]⟩) s3
  have r4 := hid (r3.far s4 hW hown 4 (.slice ao nn cp))
  have A4 := hid (row_set (j := 4) (u := .slice ao nn cp) (row_set (j := 3) (u := .string ⟨#[]⟩) (row_set (j := 2) (u := .string nm) (row_set (j := 1) (u := .int .i64 1) (row_set (j := 0) (u := .int .i64 (op.length : Int)) (row_set (j := 1) (u := .slice ao' n' cap') A3.out oB.out (by decide)) s0 (by decide)) s1 (by decide)) s2 (by decide)) s3 (by decide)) s4 (by decide))
  have K4 : Hid (∀ c, c < B → c ≠ b → ((((((w1.setCell ⟨b, 1, none⟩ (.slice ao' n' cap')).setCell ⟨B + 1, 0, none⟩ (.int .i64 (op.length : Int))).setCell ⟨B + 1, 1, none⟩ (.int .i64 1)).setCell ⟨B + 1, 2, none⟩ (.string nm)).setCell ⟨B + 1, 3, none⟩ (.string ⟨#[]⟩)).setCell ⟨B + 1, 4, none⟩ (.slice ao nn cp)).heap[c]? = w.heap[c]?) := hid (fun c hc hcb => by
    have hc' : c ≠ B + 1 := by omega
    rw [heap_setCell_other _ ⟨B + 1, 4, none⟩ c _ hc', heap_setCell_other _ ⟨B + 1, 3, none⟩ c _ hc', heap_setCell_other _ ⟨B + 1, 2, none⟩ c _ hc', heap_setCell_other _ ⟨B + 1, 1, none⟩ c _ hc', heap_setCell_other _ ⟨B + 1, 0, none⟩ c _ hc', heap_setCell_other _ ⟨b, 1, none⟩ c _ hcb]
    exact K1.out c hc)
  have hsz : B + 1 < ((((((w1.setCell ⟨b, 1, none⟩ (.slice ao' n' cap')).setCell ⟨B + 1, 0, none⟩ (.int .i64 (op.length : Int))).setCell ⟨B + 1, 1, none⟩ (.int .i64 1)).setCell ⟨B + 1, 2, none⟩ (.string nm)).setCell ⟨B + 1, 3, none⟩ (.string ⟨#[]⟩)).setCell ⟨B + 1, 4, none⟩ (.slice ao nn cp)).heap.size := by have := lt_of_block bI1.out; simpa using this
  clear r0 r1 r2 r3 s0 s1 s2 s3 s4 R3 A3
  go_wp2_with fail
  by_cases he : P.addE its.length (P.itemOf op.length ⟨1, ps, nm, tx, ats⟩) = 0
  · have HR : Hid (P.takeP (its.map (·.1)) op ⟨1, ps, nm, tx, ats⟩ = .ok ((its ++ [((P.itemOf op.length ⟨1, ps, nm, tx, ats⟩, Value.slice ao nn cp) : IV)]).map (fun y => y.1), op ++ [nm])) := hid (by simp [P.takeP, he])
    refine (add_ok r4 (P.itemOf op.length ⟨1, ps, nm, tx, ats⟩) (.slice ao nn cp) ⟨_, _, _, rfl⟩ A4 hl (hid he)).mono ?_
    rintro e w5 ⟨rfl, VI', R5⟩
    have R6 := hid R5
    clear R5 he
    go_wp2
    go_ret
    exact Or.inr ⟨_, _, _, _, HR.out, rfl, R6.out⟩
  · have HR : Hid (P.takeP (its.map (·.1)) op ⟨1, ps, nm, tx, ats⟩ = .error (P.addE its.length (P.itemOf op.length ⟨1, ps, nm, tx, ats⟩))) := hid (by simp [P.takeP, he])
    refine (add_bad r4 (P.itemOf op.length ⟨1, ps, nm, tx, ats⟩) (.slice ao nn cp) ⟨_, _, _, rfl⟩ hl _ (hid rfl) he).mono ?_
    rintro e w5 ⟨rfl, hb5⟩
    have HB := hid (r4.out.below hb5).bel
    have HK : Hid (∀ c, c < B → c ≠ b → w5.heap[c]? = w.heap[c]?) := hid (fun c hc hcb => by
      rw [hb5.block c (by omega)]
      exact K4.out c hc hcb)
    have HN := hid he
    clear hb5 he
    generalize P.addE its.length (P.itemOf op.length ⟨1, ps, nm, tx, ats⟩) = e0 at *
    go_wp2
    go_ret
    exact Or.inl ⟨_, HR.out, HN.out, rfl, HB.out, fun c hc hcb => HK.out c (HS.out ▸ hc) hcb⟩
theorem take_any (R : Hid (DR W0 b VI VN its op w)) (t : L.Tok) (v : Value) (HA : Hid (w.ownsRow W0.heap.size 143 2 v t.attrs.length (encL t.attrs))) (hk : t.kind = 1 ∨ t.kind = 2 ∨ t.kind = 3 ∨ t.kind = 4) (ho : op.length ≤ 1048575) (hl : its.length ≤ 1048576) :
    Calls Tryz.prog 48 #[.pointer (some ⟨b, 0, none⟩), tokV t v] w (TakePost W0 b w (P.takeP (its.map (·.1)) op t)) := by
  have hv : ∃ ao nn cp, v = .slice ao nn cp := by
    rcases HA.out.2 with ⟨h, _⟩ | ⟨_, _, _, h, _⟩
    · exact ⟨_, _, _, h⟩
    · exact ⟨_, _, _, h⟩
  rcases hk with hk | hk | hk | hk
  · exact take_beg R t v hv HA hk ho hl
  · exact take_end R t v hv hk (by omega)
  · exact take_both R t v hv HA hk hl
  · exact take_txt R t v hv hk hl
end
end Go.Proofs.YtmnegpdegfianaaGreatDoor
namespace Go.Proofs.YtmnegpdegfianaaGreatDoor
open Go.RowKit Go.Shelf
def ParsePost (w : World) (res : Except L.Bad (List P.Itm)) (e : Ending) (w' : World) : Prop :=
  Below w.heap.size w w' ∧
  ((∃ (q e0 : Int), res = .error (q, e0) ∧ e0 ≠ 0 ∧ e = .returned (.tuple #[.slice none 0 0, .int .i64 q, .int .i64 e0])) ∨
   (∃ (l : List IV) (V : Value), res = .ok (l.map (·.1)) ∧ e = .returned (.tuple #[V, .int .i64 0, .int .i64 0]) ∧ ItmRow w.heap.size V l w'))
/-- Items, and what is open, are never too many. -/
theorem P.take_cap {its its' : List P.Itm} {op op' : List ByteArray} {t : L.Tok} (h : P.takeP its op t = .ok (its', op')) (h1 : its.length ≤ 1000) (h2 : op.length ≤ 40) : its'.length ≤ 1000 ∧ op'.length ≤ 40 := by
  unfold P.takeP at h
  split at h
  · split at h
    · simp only [Except.ok.injEq, Prod.mk.injEq] at h
      obtain ⟨rfl, rfl⟩ := h
      simp only [List.length_dropLast]
      omega
    · cases h
  · split at h
    · cases h
    · rename_i ha
      have ha' : P.addE its.length (P.itemOf op.length t) = 0 := by simpa using ha
      have hl : (P.itemOf op.length t).level = (op.length : Int) := by unfold P.itemOf; split <;> rfl
      have hb : ¬ (40 : Int) ≤ (op.length : Int) ∧ ¬ 1000 ≤ its.length := by
        unfold P.addE at ha'
        rw [hl] at ha'
        split at ha'
        · simp at ha'
        · split at ha'
          · simp at ha'
          · split at ha'
            · simp at ha'
            · exact ⟨by assumption, by assumption⟩
      simp only [Except.ok.injEq, Prod.mk.injEq] at h
      obtain ⟨rfl, rfl⟩ := h
      refine ⟨by simp; omega, ?_⟩
      split
      · simp; omega
      · omega
set_option maxRecDepth 100000 in
set_option maxHeartbeats 4000000 in
theorem parse_any (s : ByteArray) (w : World) (ht : Tab w) (hz : s.size ≤ 140737488351232) (res : Except L.Bad (List P.Itm)) (H : Hid (P.parseP s = res)) :
    Calls Tryz.prog 12 #[.string s] w (ParsePost w res) := by
  have HT := hid ht
  clear ht
  have D0 : Hid (DR w w.heap.size (.slice none 0 0) (.slice none 0 0) [] [] (w.alloc (.cells #[.slice none 0 0, .slice none 0 0] 90))) := hid
    ⟨HT.out, Nat.le_refl _, (Below.refl _ _).alloc (Nat.le_refl _) _, heap_alloc_new w _, ⟨World.ownsRow_nil _ _ _ _, by simp⟩, Or.inl ⟨rfl, rfl⟩⟩
  go_enter Tryz.func12, Tryz.ntmps12
  go_wp2
  go_loopw [6] (fun v6 W => ∃ (i g : Nat) (VI VN : Value) (its : List IV) (op : List ByteArray), v6 = .int .i64 (i : Int) ∧ i ≤ s.size ∧ s.size - i < g ∧ its.length ≤ 1000 ∧ op.length ≤ 40 ∧ Hid (P.parseF g s i (its.map (·.1)) op = res) ∧ Hid (DR w w.heap.size VI VN its op W)) (fun v6 _ => s.size - (intOf v6).toNat)
  case atStart => exact ⟨0, s.size + 1, _, _, [], [], rfl, by omega, by omega, by simp, by simp, H, D0⟩
  case round =>
    clear H D0
    obtain ⟨i, g, VI, VN, its, op, rfl, hi, hg, hl, ho, H, HD⟩ := hrel
    by_cases hlt : i < s.size
    · have hlt' : (i : Int) < (s.size : Int) := by omega
      go_wp2_with fail
      refine Calls.mono (one_any s (i : Int) wr HD.out.tabw (by omega)) ?_
      rw [oneP_nat hlt]
      rintro e w1 ⟨hb1, ⟨q, e0, h1, h2, rfl⟩ | ⟨t, n, v, h1, rfl, h3⟩⟩
      · have HR : Hid (res = .error (q, e0)) := by show _ = _; rw [← H.out, P.parse_bad (by omega) hlt h1]
        have b1 : (e0 == 0) = false := beq_eq_false_iff_ne.2 h2
        have HE := hid h2
        have HB2 : Hid (Below w.heap.size w w1) := hid (HD.out.below hb1).bel
        clear h1 h2 hb1
        unfold zeroT
        go_wp2
        go_ret3
        refine ⟨HB2.out.alloc HB2.out.size _, Or.inl ⟨q, e0, HR.out, HE.out, rfl⟩⟩
      · have hn := L.one_go hlt h1
        obtain ⟨may, -, -⟩ := L.one_may hlt h1
        have HO := hid h1
        have HK := hid may.1
        have bs : w.heap.size ≤ wr.heap.size := HD.out.bel.size
        have H3 : Hid (w1.ownsRow w.heap.size 143 2 v t.attrs.length (encL t.attrs)) := hid (row_base h3 bs)
        obtain ⟨ao, nn, cp, rfl⟩ : ∃ ao nn cp, v = .slice ao nn cp := by
          rcases h3.2 with ⟨h, _⟩ | ⟨_, _, _, h, _⟩
          · exact ⟨_, _, _, h⟩
          · exact ⟨_, _, _, h⟩
        have D2 := hid ((HD.out.below hb1).new (.cells #[.int .i64 t.kind, .int .i64 (t.pos : Int), .string t.name, .string t.text, .slice ao nn cp] 92))
        have A2 := hid (World.ownsRow.alloc H3.out (.cells #[.int .i64 t.kind, .int .i64 (t.pos : Int), .string t.name, .string t.text, .slice ao nn cp] 92))
        have T2 := hid (heap_alloc_new w1 (.cells #[.int .i64 t.kind, .int .i64 (t.pos : Int), .string t.name, .string t.text, .slice ao nn cp] 92))
        have hnb : Hid (w1.heap.size ≠ w.heap.size ∧ w1.heap.size < (w1.alloc (.cells #[.int .i64 t.kind, .int .i64 (t.pos : Int), .string t.name, .string t.text, .slice ao nn cp] 92)).heap.size) := hid ⟨by have := (HD.out.below hb1).lt; omega, by simp⟩
        clear h1 hb1 h3 may HD H3
        unfold tokV
        go_wp2_with fail
        refine Calls.mono (take_any D2 t (.slice ao nn cp) A2 HK.out (by omega) (by omega)) ?_
        rintro e w3 (⟨e0, h4, h5, rfl, hb3, hk3⟩ | ⟨VI', VN', its', op', h4, rfl, hd3⟩)
        · have HR : Hid (res = .error ((t.pos : Int), e0)) := by show _ = _; rw [← H.out, P.parse_no (by omega) hlt HO.out h4]
          have b1 : (e0 == 0) = false := beq_eq_false_iff_ne.2 h5
          have HE := hid h5
          have HB := hid hb3
          have ct : w3.cell? ⟨w1.heap.size, 1, none⟩ = some (.int .i64 (t.pos : Int)) := by
            rw [cell_of_row w3 w1.heap.size 1 _ _ _ ((hk3 _ hnb.out.2 hnb.out.1).trans T2.out)]; rfl
          clear h4 h5 hb3 hk3 D2 A2 T2 hnb
          generalize w1.heap.size = Bt at *
          go_wp2_with fail
          go_quiet (fail)
          go_wp2
          go_ret3
          refine ⟨?_, Or.inl ⟨(t.pos : Int), e0, HR.out, HE.out, rfl⟩⟩
          first | exact HB.out | exact ⟨HB.out.os, HB.out.tape, HB.out.output, HB.out.size, HB.out.block⟩
        · have HN : Hid (P.parseF (g - 1) s n (its'.map (·.1)) op' = res) := by show _ = _; rw [← H.out, P.parse_next (by omega) hlt HO.out h4]
          have hle := P.take_cap h4 (by simpa using hl) ho
          have D3 := hid hd3
          simp only [List.length_map] at hle
          clear h4 hd3 D2 A2 T2 hnb
          go_wp2
          go_roundw
          case rel => exact ⟨n, g - 1, _, _, its', op', rfl, by omega, by omega, by omega, by omega, HN, D3⟩
          case measure => simp [intOf]; omega
    · have hlt' : ¬ (i : Int) < (s.size : Int) := by omega
      obtain ⟨aoI, capI, rfl⟩ := HD.out.form
      have c0 := HD.out.cell 0
      simp only [List.getElem?_toArray, List.getElem?_cons_zero] at c0
      go_wp2_with fail
      refine (whole_any HD).mono ?_
      rintro e w1 ⟨rfl, rfl⟩
      have HR : Hid (res = (if its.length = 0 then .error ((s.size : Int), 40) else if op.length ≠ 0 then .error ((s.size : Int), 41) else .ok (its.map (·.1)))) := by
        show _ = _
        rw [← H.out, P.parse_end (by omega) (by omega)]
        simp only [List.length_map]
      by_cases h0 : its.length = 0
      · have HR2 := HR.out
        rw [if_pos h0] at HR2
        have HR3 := hid HR2
        rw [if_pos h0]
        have HB := hid HD.out.bel
        clear HR HR2 HD H h0 c0
        go_wp2
        go_ret3
        exact ⟨HB.out, Or.inl ⟨_, _, HR3.out, by decide, rfl⟩⟩
      · have HR2 := HR.out
        rw [if_neg h0] at HR2
        rw [if_neg h0]
        by_cases h1 : op.length ≠ 0
        · rw [if_pos h1] at HR2
          rw [if_pos h1]
          have HR3 := hid HR2
          have HB := hid HD.out.bel
          clear HR HR2 HD H h0 h1 c0
          go_wp2
          go_ret3
          exact ⟨HB.out, Or.inl ⟨_, _, HR3.out, by decide, rfl⟩⟩
        · rw [if_neg h1] at HR2
          rw [if_neg h1]
          have HR3 := hid HR2
          have HB := hid HD.out.bel
          have HI := hid HD.out.itm
          clear HR HR2 HD H h0 h1
          go_wp2
          go_ret3
          exact ⟨HB.out, Or.inr ⟨its, _, HR3.out, rfl, HI.out⟩⟩
end Go.Proofs.YtmnegpdegfianaaGreatDoor
