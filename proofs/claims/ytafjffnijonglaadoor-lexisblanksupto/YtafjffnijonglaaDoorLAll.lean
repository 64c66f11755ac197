/- The walk of lexis.All: all tokens are told as the plain function says, in a row of the call's own. -/
import Derived.Test.YtafjffnijonglaaDoorLOneE
import Derived.Test.YtafjffnijonglaaDoorLOneB
import Derived.Test.YtafjffnijonglaaDoorLFacts3
namespace Go.Proofs.YtafjffnijonglaaDoor
open Go.RowKit Go.Shelf
theorem one_any (s : ByteArray) (z : Int) (w : World) (ht : Tab w) (hz : s.size ≤ 140737488351232) : Calls Tryd.prog 10 #[.string s, .int .i64 z] w (OnePost w (L.oneP s z)) := by
  by_cases h : z < 0 ∨ (s.size : Int) ≤ z
  · exact one_out s z w h
  · obtain ⟨i, rfl⟩ : ∃ i : Nat, z = (i : Int) := ⟨z.toNat, by omega⟩
    have hi : i < s.size := by omega
    have e : L.oneP s (i : Int) = L.oneN s i := by unfold L.oneP; rw [if_neg h]; simp
    rw [e]
    unfold L.oneN
    cases h1 : L.thereB s i [60, 47] with
    | true => rw [if_pos rfl]; exact one_end s i w ht hi hz (hid h1)
    | false =>
      rw [if_neg (by simp)]
      cases h2 : L.thereB s i [60] with
      | true => rw [if_pos rfl]; exact one_beg s i w ht hi hz (hid h1) (hid h2)
      | false => rw [if_neg (by simp)]; exact one_txt s i w ht hi hz (hid h1) (hid h2)
theorem oneP_nat {s : ByteArray} {i : Nat} (hi : i < s.size) : L.oneP s (i : Int) = L.oneN s i := by
  unfold L.oneP
  rw [if_neg (by omega)]
  simp
abbrev TV := L.Tok × Value
def encT1 (x : TV) : List Value := [.int .i64 x.1.kind, .int .i64 (x.1.pos : Int), .string x.1.name, .string x.1.text, x.2]
def encT (l : List TV) : List Value := l.flatMap encT1
/-- Tokens lie in a row of the call's own, and each one's attributes in another. -/
def TokRow (base : Nat) (V : Value) (l : List TV) (w : World) : Prop :=
  w.ownsRow base 27 5 V l.length (encT l) ∧ ∀ x ∈ l, w.ownsRow base 40 2 x.2 x.1.attrs.length (encL x.1.attrs)
theorem encT_snoc (l : List TV) (x : TV) : encT (l ++ [x]) = encT l ++ encT1 x := by simp [encT]
theorem encT_length (l : List TV) : (encT l).length = l.length * 5 := by
  induction l with
  | nil => rfl
  | cons a l ih => simp only [encT, List.flatMap_cons, List.length_append, List.length_cons] at *; rw [ih]; simp [encT1]; omega
theorem TokRow.below {base : Nat} {V : Value} {l : List TV} {w w' : World} (h : TokRow base V l w) (hb : Below w.heap.size w w') : TokRow base V l w' := ⟨row_below h.1 hb, fun x hx => row_below (h.2 x hx) hb⟩
/-- Rows of elements of two types are two. -/
theorem rows_two {base base' : Nat} {e e' : TypeId} {size size' : Nat} {v v' : Value} {n n' : Nat} {xs xs' : List Value} {w : World} (h : w.ownsRow base e size v n xs) (h' : w.ownsRow base' e' size' v' n' xs') (ne : e ≠ e') : v.ownBlock = none ∨ v.ownBlock ≠ v'.ownBlock := by
  rcases h.2 with ⟨rfl, _⟩ | ⟨g, cap, cur, rfl, _, hg, _⟩
  · exact Or.inl rfl
  · right
    intro q
    rcases h'.2 with ⟨rfl, _⟩ | ⟨g', cap', cur', rfl, _, hg', _⟩
    · cases q
    · have : g = g' := by simpa [Value.ownBlock] using q
      subst this
      rw [hg] at hg'
      simp only [Option.some.injEq, Obj.cells.injEq] at hg'
      exact ne hg'.2.1
theorem infoT : (Tryd.prog.info? 27).map (fun i => (i.zero, i.size, i.bytes)) = some (some (.agg #[.int .i64 0, .int .i64 0, .string ⟨#[]⟩, .string ⟨#[]⟩, .slice none 0 0]), 5, 72) := by kernel_rfl
def AllPost (w : World) (res : Except L.Bad (List L.Tok)) (e : Ending) (w' : World) : Prop :=
  Below w.heap.size w w' ∧
  ((∃ (q e0 : Int), res = .error (q, e0) ∧ e0 ≠ 0 ∧ e = .returned (.tuple #[.slice none 0 0, .int .i64 q, .int .i64 e0])) ∨
   (∃ (l : List TV) (V : Value), res = .ok (l.map (·.1)) ∧ e = .returned (.tuple #[V, .int .i64 0, .int .i64 0]) ∧ TokRow w.heap.size V l w'))
theorem one_five (x : TV) (h : x.2.oneCell' = true) : ∀ u ∈ encT1 x, u.oneCell' = true := by
  intro u hu
  simp only [encT1, List.mem_cons, List.not_mem_nil, or_false] at hu
  rcases hu with rfl | rfl | rfl | rfl | rfl <;> first | rfl | exact h
set_option maxRecDepth 100000 in
set_option maxHeartbeats 4000000 in
theorem all_any' (s : ByteArray) (w : World) (ht : Tab w) (hz : s.size ≤ 1048576) (res : Except L.Bad (List L.Tok)) (H : Hid (L.allP s = res)) :
    Calls Tryd.prog 12 #[.string s] w (AllPost w res) := by
  obtain ⟨i0, hi0, hz0, hz1, hz2⟩ := info_parts infoT
  have I0 := hid hi0
  have I1 := hid hz0
  have I2 := hid hz1
  have I3 := hid hz2
  clear hi0 hz0 hz1 hz2
  have HT := hid ht
  clear ht
  go_enter Tryd.func12, Tryd.ntmps12
  go_wp2
  go_loopw [5, 6] (fun v5 v6 W => ∃ (i g : Nat) (l : List TV), v6 = .int .i64 (i : Int) ∧ i ≤ s.size ∧ s.size - i < g ∧ l.length ≤ i ∧ Hid (L.allF g s i (l.map (·.1)) = res) ∧ Hid (TokRow w.heap.size v5 l W) ∧ Hid (Below w.heap.size w W)) (fun _ v6 _ => s.size - (intOf v6).toNat)
  case atStart => exact ⟨0, s.size + 1, [], rfl, by omega, by omega, by simp, H, ⟨World.ownsRow_nil _ _ _ _, by simp⟩, Below.refl _ _⟩
  case round =>
    clear H
    obtain ⟨i, g, l, rfl, hi, hg, hl, H, HW, HB⟩ := hrel
    by_cases hlt : i < s.size
    · have hlt' : (i : Int) < (s.size : Int) := by omega
      go_wp2_with fail
      refine Calls.mono (one_any s (i : Int) wr (HT.out.below HB.out) (by omega)) ?_
      rw [oneP_nat hlt]
      rintro e w1 ⟨hb1, ⟨q, e0, h1, h2, rfl⟩ | ⟨t, n, v, h1, rfl, h3⟩⟩
      · have HR : Hid (res = .error (q, e0)) := by show _ = _; rw [← H.out, L.all_bad (by omega) hlt h1]
        have b1 : (e0 == 0) = false := beq_eq_false_iff_ne.2 h2
        have HE := hid h2
        have HB2 : Hid (Below w.heap.size w w1) := hid (HB.out.trans (hb1.mono HB.out.size))
        clear h1 h2 hb1
        unfold zeroT
        go_wp2
        go_ret3
        refine ⟨HB2.out.alloc (Nat.le_trans (Below.refl w.heap.size w).size HB2.out.size) _, Or.inl ⟨q, e0, HR.out, HE.out, rfl⟩⟩
      · have hn := L.one_go hlt h1
        have HN : Hid (L.allF (g - 1) s n ((l ++ [(t, v)]).map (·.1)) = res) := by show _ = _; rw [← H.out, L.all_next (by omega) hlt h1]; simp
        have H3 := hid h3
        have HW2 := hid (HW.out.below hb1)
        have HB2 : Hid (Below w.heap.size w w1) := hid (HB.out.trans (hb1.mono HB.out.size))
        have bs : w.heap.size ≤ wr.heap.size := HB.out.size
        have bs1 : w.heap.size ≤ w1.heap.size := HB2.out.size
        obtain ⟨ao, nn, cp, rfl⟩ : ∃ ao nn cp, v = .slice ao nn cp := by
          rcases h3.2 with ⟨h, _⟩ | ⟨_, _, _, h, _⟩
          · exact ⟨_, _, _, h⟩
          · exact ⟨_, _, _, h⟩
        clear h1 hb1 h3
        unfold tokV
        have HO : Hid (((w1.alloc (Obj.cells #[.int .i64 t.kind, .int .i64 (t.pos : Int), .string t.name, .string t.text, .slice ao nn cp] 27)).alloc (Obj.cells #[.int .i64 t.kind, .int .i64 (t.pos : Int), .string t.name, .string t.text, .slice ao nn cp] 27)).ownsRow w.heap.size 27 5 u5 l.length (encT l)) := hid (World.ownsRow.alloc (World.ownsRow.alloc HW2.out.1 _) _)
        have HC : Hid (∀ q u, (encT1 (t, .slice ao nn cp))[q]? = some u → ((w1.alloc (Obj.cells #[.int .i64 t.kind, .int .i64 (t.pos : Int), .string t.name, .string t.text, .slice ao nn cp] 27)).alloc (Obj.cells #[.int .i64 t.kind, .int .i64 (t.pos : Int), .string t.name, .string t.text, .slice ao nn cp] 27)).cell? ((⟨w1.heap.size + 1, 0, none⟩ : Addr).add q) = some u) := hid (by
          have h := heap_alloc_new (w1.alloc (Obj.cells #[.int .i64 t.kind, .int .i64 (t.pos : Int), .string t.name, .string t.text, .slice ao nn cp] 27)) (Obj.cells #[.int .i64 t.kind, .int .i64 (t.pos : Int), .string t.name, .string t.text, .slice ao nn cp] 27)
          rw [show (w1.alloc (Obj.cells #[.int .i64 t.kind, .int .i64 (t.pos : Int), .string t.name, .string t.text, .slice ao nn cp] 27)).heap.size = w1.heap.size + 1 by simp] at h
          exact World.news_of_block (cs := #[.int .i64 t.kind, .int .i64 (t.pos : Int), .string t.name, .string t.text, .slice ao nn cp]) h)
        have hm : Hid (l.length + 1 ≤ maxLen ∧ (l.length + 1) * 72 ≤ 140737488355328) := hid ⟨by unfold maxLen; omega, by omega⟩
        go_wp2_with (at_builtin; refine wpList_append_lies _ rfl (.tmp 27) (.tmp 29) 34 rfl w.heap.size 27 i0 (.agg #[.int .i64 0, .int .i64 0, .string ⟨#[]⟩, .string ⟨#[]⟩, .slice none 0 0]) 5 72 Tryd.underlying34 I0.out I1.out I2.out I3.out rfl (by decide) _ l.length (encT l) rfl HO.out ⟨w1.heap.size + 1, 0, none⟩ 1 1 (encT1 (t, .slice ao nn cp)) rfl rfl HC.out (one_five _ rfl) (by decide) hm.out.1 hm.out.2 (by simp; omega) (w1.heap.size + 2) (by simp) ?_; intro g' cap' w4 hown hgrow _ _)
        have HB4 : Hid (Below w.heap.size w w4) := hid (((HB2.out.alloc bs1 _).alloc (by simp; omega) _).grown hgrow (by simp; omega) (fun q hq => (World.ownsRow.lt HW2.out.1 q hq).1))
        have HW4 : Hid (TokRow w.heap.size (.slice (some ⟨g', 0, none⟩) (l.length + 1) cap') (l ++ [(t, .slice ao nn cp)]) w4) := hid (by
          refine ⟨by rw [encT_snoc, List.length_append]; exact hown, fun x hx => ?_⟩
          have keep : ∀ {base : Nat} {y : Value} {q : Nat} {xs : List Value}, w1.ownsRow base 40 2 y q xs → w4.ownsRow base 40 2 y q xs := fun {base y q xs} h =>
            World.ownsRow.kept (World.ownsRow.alloc (World.ownsRow.alloc h _) _) hgrow (rows_two h HW2.out.1 (by decide))
          rcases List.mem_append.1 hx with hx | hx
          · exact keep (HW2.out.2 x hx)
          · simp only [List.mem_singleton] at hx
            subst hx
            exact row_base (keep H3.out) bs)
        clear hown hgrow HO HC
        go_wp2
        go_roundw
        case rel => exact ⟨n, g - 1, l ++ [(t, .slice ao nn cp)], rfl, by omega, by omega, by simp; omega, HN, HW4, HB4⟩
        case measure => simp [intOf]; omega
    · have hlt' : ¬ (i : Int) < (s.size : Int) := by omega
      have HR : Hid (res = .ok (l.map (·.1))) := by show _ = _; rw [← H.out, L.all_end (by omega)]
      go_wp2
      go_ret3
      exact ⟨HB.out, Or.inr ⟨l, u5, HR.out, rfl, HW.out⟩⟩

end Go.Proofs.YtafjffnijonglaaDoor
