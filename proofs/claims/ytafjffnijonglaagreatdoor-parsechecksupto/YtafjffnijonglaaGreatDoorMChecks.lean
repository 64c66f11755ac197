/- PROVED: of any items of bulk at most 1048576, ParseChecks returns true: it is told whether they are a document, or which one is amiss first, and how; the items read afterwards as they read before. Its conditions: the table of glyph lies as the program's text lays it. -/
import Derived.Test.YtafjffnijonglaaGreatDoorPParse
import Derived.Test.YtafjffnijonglaaGreatDoorGRAll
import Derived.Lib.QuietBelow
import Derived.BigQuiet
import Derived.Test.YtafjffnijonglaaGreatDoorGLaid
import Derived.Test.YtafjffnijonglaaGreatDoorTie
import Derived.Test.YtafjffnijonglaaGreatDoorCards
import Derived.SevenTiedAt
import Derived.Deep.DeepHandedRow
import Derived.Deep.Slices
import Derived.WideKeyArgs
namespace Go.Proofs.YtafjffnijonglaaGreatDoor
open Go.RowKit Go.Shelf
namespace P
def endG (l : List Itm) (z : Int) (to : Nat) : Nat := to + ((l.drop to).takeWhile fun x => decide (z < x.level)).length
theorem endG_yes {l : List Itm} {z : Int} {to : Nat} (h : to < l.length) (hz : z < l[to].level) : endG l z to = endG l z (to + 1) := by
  unfold endG
  rw [List.drop_eq_getElem_cons h, List.takeWhile_cons_of_pos (by simpa using hz)]
  simp
  omega
theorem endG_no {l : List Itm} {z : Int} {to : Nat} (h : to < l.length) (hz : ¬ z < l[to].level) : endG l z to = to := by
  unfold endG
  rw [List.drop_eq_getElem_cons h, List.takeWhile_cons_of_neg (by simpa using hz)]
  simp
theorem endG_end {l : List Itm} {z : Int} {to : Nat} (h : l.length ≤ to) : endG l z to = to := by
  unfold endG
  rw [List.drop_eq_nil_of_le h]
  simp
end P
/-- Attributes lie in memory. -/
def AttrsIn (v : Value) (l : List L.Attr) (w : World) : Prop :=
  ∃ ao cap, v = .slice ao l.length cap ∧ l.length ≤ 9223372036854775807 ∧ (l ≠ [] → ∃ g o, ao = some ⟨g, o, none⟩ ∧ g < w.heap.size ∧ ∀ j (h : j < l.length), w.cell? ⟨g, o + j * 2, none⟩ = some (.string l[j].1) ∧ w.cell? ⟨g, o + j * 2 + 1, none⟩ = some (.string l[j].2))
/-- Items lie in memory. -/
def ItemsIn (V : Value) (l : List IV) (w : World) : Prop :=
  (∃ ao cap, V = .slice ao l.length cap ∧ l.length ≤ 9223372036854775807 ∧ (l ≠ [] → ∃ g o, ao = some ⟨g, o, none⟩ ∧ g < w.heap.size ∧ ∀ j (h : j < l.length), w.cell? ⟨g, o + j * 5, none⟩ = some (.int .i64 l[j].1.level) ∧ w.cell? ⟨g, o + j * 5 + 1, none⟩ = some (.int .i64 l[j].1.kind) ∧ w.cell? ⟨g, o + j * 5 + 2, none⟩ = some (.string l[j].1.name) ∧ w.cell? ⟨g, o + j * 5 + 3, none⟩ = some (.string l[j].1.text) ∧ w.cell? ⟨g, o + j * 5 + 4, none⟩ = some l[j].2)) ∧
  ∀ x ∈ l, AttrsIn x.2 x.1.attrs w
theorem AttrsIn.below {v : Value} {l : List L.Attr} {w w' : World} (h : AttrsIn v l w) (hb : Below w.heap.size w w') : AttrsIn v l w' := by
  obtain ⟨ao, cap, h1, h2, h3⟩ := h
  refine ⟨ao, cap, h1, h2, fun hl => ?_⟩
  obtain ⟨g, o, h4, h5, h6⟩ := h3 hl
  refine ⟨g, o, h4, Nat.lt_of_lt_of_le h5 hb.size, fun j hj => ?_⟩
  obtain ⟨k0, k1⟩ := h6 j hj
  exact ⟨(hb.cell (p := ⟨g, o + j * 2, none⟩) h5).trans k0, (hb.cell (p := ⟨g, o + j * 2 + 1, none⟩) h5).trans k1⟩
theorem ItemsIn.below {V : Value} {l : List IV} {w w' : World} (h : ItemsIn V l w) (hb : Below w.heap.size w w') : ItemsIn V l w' := by
  refine ⟨?_, fun x hx => (h.2 x hx).below hb⟩
  obtain ⟨ao, cap, h1, h2, h3⟩ := h.1
  refine ⟨ao, cap, h1, h2, fun hl => ?_⟩
  obtain ⟨g, o, h4, h5, h6⟩ := h3 hl
  refine ⟨g, o, h4, Nat.lt_of_lt_of_le h5 hb.size, fun j hj => ?_⟩
  obtain ⟨k0, k1, k2, k3, k4⟩ := h6 j hj
  exact ⟨(hb.cell (p := ⟨g, o + j * 5, none⟩) h5).trans k0, (hb.cell (p := ⟨g, o + j * 5 + 1, none⟩) h5).trans k1, (hb.cell (p := ⟨g, o + j * 5 + 2, none⟩) h5).trans k2, (hb.cell (p := ⟨g, o + j * 5 + 3, none⟩) h5).trans k3, (hb.cell (p := ⟨g, o + j * 5 + 4, none⟩) h5).trans k4⟩
theorem encI_at : ∀ (l : List IV) (j : Nat) (hj : j < l.length), (encI l)[j * 5]? = some (.int .i64 l[j].1.level) ∧ (encI l)[j * 5 + 1]? = some (.int .i64 l[j].1.kind) ∧ (encI l)[j * 5 + 2]? = some (.string l[j].1.name) ∧ (encI l)[j * 5 + 3]? = some (.string l[j].1.text) ∧ (encI l)[j * 5 + 4]? = some l[j].2
  | a :: l, 0, _ => by simp [encI, encI1]
  | a :: l, j + 1, hj => by
    have := encI_at l j (by simpa using hj)
    have e1 : (j + 1) * 5 = j * 5 + 1 + 1 + 1 + 1 + 1 := by omega
    simp only [encI, List.flatMap_cons, encI1, List.cons_append, List.nil_append, e1] at *
    simpa using this
theorem attrs_in {base : Nat} {v : Value} {l : List L.Attr} {w : World} (h : w.ownsRow base 67 2 v l.length (encL l)) : AttrsIn v l w := by
  have h0 := h
  rcases h.2 with ⟨rfl, h1⟩ | ⟨g, cap, cur, rfl, hb, hg, h2, h3, _⟩
  · exact ⟨none, 0, by rw [h1], by omega, fun hl => absurd (List.length_eq_zero_iff.1 h1) hl⟩
  · refine ⟨_, _, rfl, by unfold maxLen at h3; omega, fun _ => ⟨g, 0, rfl, lt_of_block hg, fun j hj => ?_⟩⟩
    obtain ⟨e0, e1⟩ := encL_at l j hj
    have c := fun q hq => World.ownsRow.cellAt h0 q hq
    simp only [Nat.zero_add]
    exact ⟨by rw [c _ (by omega)]; exact e0, by rw [c _ (by omega)]; exact e1⟩
theorem items_in {base : Nat} {V : Value} {l : List IV} {w : World} (h : ItmRow base V l w) : ItemsIn V l w := by
  refine ⟨?_, fun x hx => attrs_in (h.2 x hx)⟩
  have h0 := h.1
  rcases h.1.2 with ⟨rfl, h1⟩ | ⟨g, cap, cur, rfl, hb, hg, h2, h3, _⟩
  · exact ⟨none, 0, by rw [h1], by omega, fun hl => absurd (List.length_eq_zero_iff.1 h1) hl⟩
  · refine ⟨_, _, rfl, by unfold maxLen at h3; omega, fun _ => ⟨g, 0, rfl, lt_of_block hg, fun j hj => ?_⟩⟩
    obtain ⟨e0, e1, e2, e3, e4⟩ := encI_at l j hj
    have c := fun q hq => World.ownsRow.cellAt h0 q hq
    simp only [Nat.zero_add]
    exact ⟨by rw [c _ (by omega)]; exact e0, by rw [c _ (by omega)]; exact e1, by rw [c _ (by omega)]; exact e2, by rw [c _ (by omega)]; exact e3, by rw [c _ (by omega)]; exact e4⟩
theorem below_drewN {B : Nat} {a w : World} (h : Below B a w) (m : Nat) : Below B a (w.drewN m) := ⟨h.os, h.tape, h.output, h.size, h.block⟩

theorem aliveP_one : P.parseP ⟨#[60, 97, 62, 120, 60, 98, 47, 62, 60, 47, 97, 62]⟩ = .ok [⟨0, 1, ⟨#[97]⟩, ⟨#[]⟩, []⟩, ⟨1, 2, ⟨#[]⟩, ⟨#[120]⟩, []⟩, ⟨1, 1, ⟨#[98]⟩, ⟨#[]⟩, []⟩] := by kernel_rfl
theorem aliveP_two : P.parseP ⟨#[60, 97, 62, 60, 47, 98, 62]⟩ = .error (3, 41) := by kernel_rfl
set_option maxRecDepth 100000 in
set_option maxHeartbeats 4000000 in
theorem aliveP_any (w : World) (ht : Tab w) : Calls Tryz.prog 5 #[] w fun e w' => e = .returned (.bool true) ∧ Below w.heap.size w w' := by
  have HT := hid ht
  clear ht
  go_enter Tryz.func5, Tryz.ntmps5
  go_wp2_with fail
  refine Calls.mono (parse_any _ w HT.out (by decide) _ (hid aliveP_one)) ?_
  rintro e w1 ⟨hb1, ⟨q, e0, h1, _⟩ | ⟨l, V, h1, rfl, h3⟩⟩
  · cases h1
  · have h4 := items_in h3
    obtain ⟨⟨t1, v1⟩, l1, rfl⟩ : ∃ x l1, l = x :: l1 := by cases l with | nil => cases h1 | cons x l1 => exact ⟨x, l1, rfl⟩
    obtain ⟨⟨t2, v2⟩, l2, rfl⟩ : ∃ x l2, l1 = x :: l2 := by cases l1 with | nil => cases h1 | cons x l2 => exact ⟨x, l2, rfl⟩
    obtain ⟨⟨t3, v3⟩, l3, rfl⟩ : ∃ x l3, l2 = x :: l3 := by cases l2 with | nil => cases h1 | cons x l3 => exact ⟨x, l3, rfl⟩
    obtain rfl : l3 = [] := by cases l3 with | nil => rfl | cons x l4 => cases h1
    simp only [List.map_cons, List.map_nil, Except.ok.injEq, List.cons.injEq, and_true] at h1
    obtain ⟨rfl, rfl, rfl⟩ := h1
    obtain ⟨ao, cap, rfl, _, hc⟩ := h4.1
    obtain ⟨g, o, rfl, hg, hc⟩ := hc (by simp)
    have k1 := hc 1 (by simp)
    have k2 := hc 2 (by simp)
    simp only [List.getElem_cons_zero, List.getElem_cons_succ, List.length_cons, List.length_nil, Nat.zero_add] at k1 k2 ⊢
    have HT1 := hid (HT.out.below hb1)
    have HB1 := hid hb1
    clear hb1 h3 h4 hc
    go_wp2_with fail
    refine Calls.mono (parse_any _ w1 HT1.out (by decide) _ (hid aliveP_two)) ?_
    rintro e w2 ⟨hb2, ⟨q, e0, h1, _, rfl⟩ | ⟨l, V, h1, _⟩⟩
    · simp only [Except.error.injEq, Prod.mk.injEq] at h1
      obtain ⟨rfl, rfl⟩ := h1
      have m0 : w2.cell? ⟨g, o + 1 * 5 + 3, none⟩ = some (.string ⟨#[120]⟩) := by rw [hb2.cell (p := ⟨g, o + 1 * 5 + 3, none⟩) hg]; exact k1.2.2.2.1
      have m2 : w2.cell? ⟨g, o + 2 * 5, none⟩ = some (.int .i64 1) := by rw [hb2.cell (p := ⟨g, o + 2 * 5, none⟩) hg]; exact k2.1
      have m4 : w2.cell? ⟨g, o + 2 * 5 + 2, none⟩ = some (.string ⟨#[98]⟩) := by rw [hb2.cell (p := ⟨g, o + 2 * 5 + 2, none⟩) hg]; exact k2.2.2.1
      have HB2 := hid (HB1.out.trans (hb2.mono HB1.out.size))
      clear hb2 k1 k2
      go_wp2
      go_ret
      exact ⟨rfl, HB2.out⟩
    · cases h1

end Go.Proofs.YtafjffnijonglaaGreatDoor
namespace Go.Proofs.YtafjffnijonglaaGreatDoor
open Go.RowKit Go.Shelf
/-- What is asked of an item's parts where they come from outside. -/
def FitC (x : P.Itm) : Prop := (-9223372036854775808 ≤ x.level ∧ x.level ≤ 9223372036854775807) ∧ (-9223372036854775808 ≤ x.kind ∧ x.kind ≤ 9223372036854775807) ∧ x.name.size ≤ maxLen ∧ x.text.size ≤ maxLen ∧ ∀ a ∈ x.attrs, a.1.size ≤ maxLen ∧ a.2.size ≤ maxLen
theorem leq_eq (a b : ByteArray) : (Op.bytesLess a.toList b.toList || a.toList == b.toList) = !(L.ltB b a) := by
  rw [str_eq, ByteArray.toList_eq, ByteArray.toList_eq, L.less_lt]
  cases h : L.ltB b a with
  | true =>
    have h1 : ¬ a.data.toList < b.data.toList := fun q => by
      have h2 : L.ltB a b = true := by simpa [L.ltB] using q
      have := L.lt_tr h h2
      rw [L.lt_irr] at this
      cases this
    have h3 : a ≠ b := by rintro rfl; rw [L.lt_irr] at h; cases h
    simp [h1, h3]
  | false =>
    cases h1 : L.ltB a b with
    | true =>
      have h2 : a.data.toList < b.data.toList := by simpa [L.ltB] using h1
      simp [h2]
    | false =>
      have h3 : a = b := L.lt_tri a b h1 h
      simp [h3]
section
variable {w : World}
set_option maxRecDepth 100000 in
set_option maxHeartbeats 1000000 in
theorem unfit_any (s : ByteArray) (hs : s.size ≤ maxLen) (ht : Tab w) : Calls Tryz.prog 30 #[.string s] w fun e w' => e = .returned (.int .i64 (P.unfitE s)) ∧ Below w.heap.size w w' := by
  obtain ⟨c, HC⟩ : ∃ c, Hid (G.countZ s.data.toList = c) := ⟨_, hid rfl⟩
  obtain ⟨r, HR⟩ : ∃ r, Hid (P.unfitE s = r) := ⟨_, hid rfl⟩
  rw [HR.out]
  have HR2 := HR.out
  unfold P.unfitE at HR2
  rw [HC.out] at HR2
  clear HR
  go_enter Tryz.func30, Tryz.ntmps30
  go_wp2_with fail
  refine (count_any s c w ht hs HC).mono ?_
  rintro e w1 ⟨rfl, hb⟩
  have HB := hid hb
  clear hb HC
  by_cases h1 : c < 0
  · rw [if_pos h1] at HR2
    subst HR2
    go_wp2
    go_ret
    exact ⟨rfl, HB.out⟩
  · rw [if_neg h1] at HR2
    by_cases h2 : 1500 < s.size
    · rw [if_pos h2] at HR2
      subst HR2
      have h2' : (1500 : Int) < (s.size : Int) := by omega
      go_wp2
      go_ret
      exact ⟨rfl, HB.out⟩
    · rw [if_neg h2] at HR2
      subst HR2
      have h2' : ¬ (1500 : Int) < (s.size : Int) := by omega
      go_wp2
      go_ret
      exact ⟨rfl, HB.out⟩
theorem P.rise_cons (p : ByteArray) (a : L.Attr) (l : List L.Attr) : P.riseF p (a :: l) = (L.nameP a.1 && L.ltB p a.1 && P.riseF a.1 l) := rfl
set_option maxRecDepth 100000 in
set_option maxHeartbeats 4000000 in
theorem rise_any (v : Value) (l : List L.Attr) (I : Hid (AttrsIn v l w)) (F : Hid (∀ a ∈ l, a.1.size ≤ maxLen ∧ a.2.size ≤ maxLen)) (ht : Tab w) : Calls Tryz.prog 49 #[v] w fun e w' => e = .returned (.bool (P.riseF L.noB l)) ∧ Below w.heap.size w w' := by
  obtain ⟨ao, cap, rfl, hl, hc⟩ := I.out
  have HT := hid ht
  have HCC := hid hc
  clear ht hc I
  obtain ⟨r, HR⟩ : ∃ r, Hid (P.riseF L.noB l = r) := ⟨_, hid rfl⟩
  rw [HR.out]
  go_enter Tryz.func49, Tryz.ntmps49
  go_wp2
  go_loopw [3, 8] (fun v3 v8 W => ∃ (q : Nat) (p : ByteArray), v8 = .int .i64 (q : Int) ∧ v3 = .string p ∧ q ≤ l.length ∧ Hid (P.riseF p (l.drop q) = r) ∧ Hid (Below w.heap.size w W)) (fun _ v8 _ => l.length - (intOf v8).toNat)
  case atStart => exact ⟨0, L.noB, rfl, rfl, by omega, HR, hid (Below.refl _ _)⟩
  case round =>
    clear HR
    obtain ⟨q, p, rfl, rfl, hq, HR, HB⟩ := hrel
    by_cases h1 : q < l.length
    · have h1' : (q : Int) < (l.length : Int) := by omega
      obtain ⟨g, o, rfl, hg, hc⟩ := HCC.out (by rintro rfl; simp at h1)
      obtain ⟨k0, k1⟩ := hc q h1
      have c0 : wr.cell? ⟨g, o + q * 2, none⟩ = some (.string l[q].1) := (HB.out.cell (p := ⟨g, o + q * 2, none⟩) hg).trans k0
      have c1 : wr.cell? ⟨g, o + q * 2 + 1, none⟩ = some (.string l[q].2) := (HB.out.cell (p := ⟨g, o + q * 2 + 1, none⟩) hg).trans k1
      have hF := (F.out _ (List.getElem_mem h1)).1
      have HR2 : Hid ((L.nameP l[q].1 && L.ltB p l[q].1 && P.riseF l[q].1 (l.drop (q + 1))) = r) := hid (by rw [← P.rise_cons, ← List.drop_eq_getElem_cons h1]; exact HR.out)
      have HB2 : Hid (Below w.heap.size w (wr.alloc (.cells #[.string l[q].1, .string l[q].2] 67))) := hid (HB.out.alloc HB.out.size _)
      clear k0 k1 hc HR
      generalize l[q].1 = an at *
      generalize l[q].2 = av at *
      cases hn : L.nameP an with
      | false =>
        obtain rfl : r = false := by rw [← HR2.out, hn]; rfl
        have HN : Hid (G.nameB an.data.toList = false) := hid hn
        clear hn HR2
        go_wp2_with fail
        refine (name_any an false _ (HT.out.below HB2.out) hF HN).mono ?_
        rintro e w2 ⟨rfl, hb2⟩
        have HB3 := hid (HB2.out.trans (hb2.mono HB2.out.size))
        clear hb2
        go_wp2
        go_ret
        exact ⟨rfl, HB3.out⟩
      | true =>
        have HN : Hid (G.nameB an.data.toList = true) := hid hn
        have HR3 : Hid ((L.ltB p an && P.riseF an (l.drop (q + 1))) = r) := hid (by rw [← HR2.out, hn]; simp)
        clear hn HR2
        go_wp2_with fail
        refine (name_any an true _ (HT.out.below HB2.out) hF HN).mono ?_
        rintro e w2 ⟨rfl, hb2⟩
        have HB3 := hid (HB2.out.trans (hb2.mono HB2.out.size))
        have x0 : w2.cell? ⟨wr.heap.size, 0, none⟩ = some (.string an) := by
          rw [hb2.cell (p := ⟨wr.heap.size, 0, none⟩) (by simp), cell_of_row _ wr.heap.size 0 _ _ _ (heap_alloc_new wr _)]; rfl
        have lq := leq_eq an p
        clear hb2
        cases hlt : L.ltB p an with
        | false =>
          obtain rfl : r = false := by rw [← HR3.out, hlt]; rfl
          rw [hlt] at lq
          simp only [Bool.not_false] at lq
          clear HR3 hlt
          go_wp2
          go_ret
          exact ⟨rfl, HB3.out⟩
        | true =>
          have HR4 : Hid (P.riseF an (l.drop (q + 1)) = r) := hid (by rw [← HR3.out, hlt]; simp)
          rw [hlt] at lq
          simp only [Bool.not_true] at lq
          clear HR3 hlt
          go_wp2
          go_roundw
          case rel => exact ⟨q + 1, an, by go_num, rfl, by omega, HR4, HB3⟩
          case measure => (simp [intOf]; try omega)
    · have h1' : ¬ (q : Int) < (l.length : Int) := by omega
      obtain rfl : r = true := by rw [← HR.out, List.drop_eq_nil_of_le (by omega)]; rfl
      clear HR
      go_wp2
      go_ret
      exact ⟨rfl, HB.out⟩
theorem P.vals_cons (a : L.Attr) (l : List L.Attr) : P.valsE (a :: l) = if P.unfitE a.2 ≠ 0 then P.unfitE a.2 else P.valsE l := rfl
set_option maxRecDepth 100000 in
set_option maxHeartbeats 4000000 in
theorem misnamed_any (x : P.Itm) (v : Value) (I : Hid (AttrsIn v x.attrs w)) (F : Hid (FitC x)) (ht : Tab w) : Calls Tryz.prog 31 #[itmV x v] w fun e w' => e = .returned (.int .i64 (if L.nameP x.name = false ∨ P.riseF L.noB x.attrs = false then 63 else if 20 < x.attrs.length then 67 else P.valsE x.attrs)) ∧ Below w.heap.size w w' := by
  have HT := hid ht
  clear ht
  obtain ⟨lv, kd, nm, tx, ats⟩ := x
  obtain ⟨r, HR⟩ : ∃ r, Hid ((if L.nameP nm = false ∨ P.riseF L.noB ats = false then 63 else if 20 < ats.length then 67 else P.valsE ats) = r) := ⟨_, hid rfl⟩
  dsimp only at *
  rw [HR.out]
  obtain ⟨ao, cap, rfl, hl, hc⟩ := I.out
  have HCC := hid hc
  clear hc
  have HB1 : Hid (Below w.heap.size w (w.alloc (.cells #[.int .i64 lv, .int .i64 kd, .string nm, .string tx, .slice ao ats.length cap] 34))) := hid ((Below.refl _ _).alloc (Nat.le_refl _) _)
  have bI : Hid ((w.alloc (.cells #[.int .i64 lv, .int .i64 kd, .string nm, .string tx, .slice ao ats.length cap] 34)).heap[w.heap.size]? = some (.cells #[.int .i64 lv, .int .i64 kd, .string nm, .string tx, .slice ao ats.length cap] 34 (0, 0))) := hid (heap_alloc_new w _)
  have hF := F.out.2.2.1
  unfold itmV
  dsimp only at hF
  go_enter Tryz.func31, Tryz.ntmps31
  cases hn : L.nameP nm with
  | false =>
    obtain rfl : r = 63 := by rw [← HR.out, hn]; simp
    have HN : Hid (G.nameB nm.data.toList = false) := hid hn
    clear hn HR
    go_wp2_with fail
    refine (name_any nm false _ (HT.out.below HB1.out) hF HN).mono ?_
    rintro e w2 ⟨rfl, hb2⟩
    have HB3 := hid (HB1.out.trans (hb2.mono HB1.out.size))
    clear hb2
    go_wp2
    go_ret
    exact ⟨rfl, HB3.out⟩
  | true =>
    have HN : Hid (G.nameB nm.data.toList = true) := hid hn
    have HR2 : Hid ((if P.riseF L.noB ats = false then 63 else if 20 < ats.length then 67 else P.valsE ats) = r) := hid (by rw [← HR.out, hn]; simp)
    clear hn HR
    go_wp2_with fail
    refine (name_any nm true _ (HT.out.below HB1.out) hF HN).mono ?_
    rintro e w2 ⟨rfl, hb2⟩
    have HB3 := hid (HB1.out.trans (hb2.mono HB1.out.size))
    have bI2 := hid ((hb2.block _ (lt_of_block bI.out)).trans bI.out)
    have x4 : w2.cell? ⟨w.heap.size, 4, none⟩ = some (.slice ao ats.length cap) := by rw [cell_of_row _ w.heap.size 4 _ _ _ bI2.out]; rfl
    clear hb2 bI HB1
    go_wp2_with fail
    refine (rise_any _ ats (hid (I.out.below HB3.out)) (hid F.out.2.2.2.2) (HT.out.below HB3.out)).mono ?_
    rintro e w3 ⟨rfl, hb3⟩
    have HB4 := hid (HB3.out.trans (hb3.mono HB3.out.size))
    have bI3 := hid ((hb3.block _ (lt_of_block bI2.out)).trans bI2.out)
    have y4 : w3.cell? ⟨w.heap.size, 4, none⟩ = some (.slice ao ats.length cap) := by rw [cell_of_row _ w.heap.size 4 _ _ _ bI3.out]; rfl
    clear hb3 bI2 HB3 x4
    cases hr : P.riseF L.noB ats with
    | false =>
      obtain rfl : r = 63 := by rw [← HR2.out, hr]; simp
      clear hr HR2
      go_wp2
      go_ret
      exact ⟨rfl, HB4.out⟩
    | true =>
      have HR3 : Hid ((if 20 < ats.length then 67 else P.valsE ats) = r) := hid (by rw [← HR2.out, hr]; simp)
      clear hr HR2
      by_cases h20 : 20 < ats.length
      · obtain rfl : r = 67 := by rw [← HR3.out, if_pos h20]
        have h20' : (20 : Int) < (ats.length : Int) := by omega
        clear HR3 HCC
        go_wp2
        go_ret
        exact ⟨rfl, HB4.out⟩
      · have h20' : ¬ (20 : Int) < (ats.length : Int) := by omega
        have HR4 : Hid (P.valsE ats = r) := hid (by rw [← HR3.out, if_neg h20])
        clear HR3
        go_wp2
        go_loopw [23] (fun v23 W => ∃ q : Nat, v23 = .int .i64 (q : Int) ∧ q ≤ ats.length ∧ Hid (P.valsE (ats.drop q) = r) ∧ Hid (Below w.heap.size w W)) (fun v23 _ => ats.length - (intOf v23).toNat)
        case atStart => exact ⟨0, rfl, by omega, HR4, HB4⟩
        case round =>
          clear HR4 HB4 bI3 y4
          obtain ⟨q, rfl, hq, HR, HB⟩ := hrel
          by_cases h1 : q < ats.length
          · have h1' : (q : Int) < (ats.length : Int) := by omega
            obtain ⟨g, o, rfl, hg, hc⟩ := HCC.out (by rintro rfl; simp at h1)
            obtain ⟨k0, k1⟩ := hc q h1
            have c0 : wr.cell? ⟨g, o + q * 2, none⟩ = some (.string ats[q].1) := (HB.out.cell (p := ⟨g, o + q * 2, none⟩) hg).trans k0
            have c1 : wr.cell? ⟨g, o + q * 2 + 1, none⟩ = some (.string ats[q].2) := (HB.out.cell (p := ⟨g, o + q * 2 + 1, none⟩) hg).trans k1
            have hF2 := (F.out.2.2.2.2 _ (List.getElem_mem h1)).2
            have HR2 : Hid ((if P.unfitE ats[q].2 ≠ 0 then P.unfitE ats[q].2 else P.valsE (ats.drop (q + 1))) = r) := hid (by rw [← P.vals_cons, ← List.drop_eq_getElem_cons h1]; exact HR.out)
            have HB2 : Hid (Below w.heap.size w (wr.alloc (.cells #[.string ats[q].1, .string ats[q].2] 67))) := hid (HB.out.alloc HB.out.size _)
            clear k0 k1 hc HR
            generalize ats[q].1 = an at *
            generalize ats[q].2 = av at *
            go_wp2_with fail
            refine (unfit_any av hF2 (HT.out.below HB2.out)).mono ?_
            rintro e w5 ⟨rfl, hb5⟩
            have HB5 := hid (HB2.out.trans (hb5.mono HB2.out.size))
            clear hb5 HB2
            by_cases hu : P.unfitE av = 0
            · have HR3 : Hid (P.valsE (ats.drop (q + 1)) = r) := hid (by rw [← HR2.out, if_neg (by simp [hu])])
              rw [hu]
              clear hu HR2
              go_wp2
              go_roundw
              case rel => exact ⟨q + 1, by go_num, by omega, HR3, HB5⟩
              case measure => (simp [intOf]; try omega)
            · have hE : P.unfitE av = r := by rw [← HR2.out, if_pos hu]
              rw [hE] at hu ⊢
              have hu' : (r == 0) = false := beq_eq_false_iff_ne.2 hu
              clear hu hE HR2
              go_wp2
              go_ret
              exact ⟨rfl, HB5.out⟩
          · have h1' : ¬ (q : Int) < (ats.length : Int) := by omega
            obtain rfl : r = 0 := by rw [← HR.out, List.drop_eq_nil_of_le (by omega)]; rfl
            clear HR
            go_wp2
            go_ret
            exact ⟨rfl, HB.out⟩
theorem neq_empty (a : ByteArray) (h : a ≠ L.noB) : (a.toList == []) = false := by
  have := str_eq a L.noB
  rw [ByteArray.toList_eq L.noB] at this
  have h2 : (a.toList == L.noB.data.toList) = false := by rw [this]; simpa using h
  exact h2
set_option maxRecDepth 100000 in
set_option maxHeartbeats 4000000 in
theorem misshapen_any (x : P.Itm) (v : Value) (I : Hid (AttrsIn v x.attrs w)) (F : Hid (FitC x)) (ht : Tab w) : Calls Tryz.prog 18 #[itmV x v] w fun e w' => e = .returned (.int .i64 (P.partsE x)) ∧ Below w.heap.size w w' := by
  have HT := hid ht
  clear ht
  obtain ⟨r, HR⟩ : ∃ r, Hid (P.partsE x = r) := ⟨_, hid rfl⟩
  rw [HR.out]
  obtain ⟨lv, kd, nm, tx, ats⟩ := x
  have HR1 := HR.out
  unfold P.partsE at HR1
  dsimp only at HR1
  clear HR
  obtain ⟨ao, cap, rfl, hl, _⟩ := I.out
  have HB1 : Hid (Below w.heap.size w (w.alloc (.cells #[.int .i64 lv, .int .i64 kd, .string nm, .string tx, .slice ao ats.length cap] 34))) := hid ((Below.refl _ _).alloc (Nat.le_refl _) _)
  dsimp only at *
  unfold itmV
  dsimp only
  go_enter Tryz.func18, Tryz.ntmps18
  by_cases h2 : kd = 2
  · rw [if_pos h2] at HR1
    subst h2
    by_cases hn : nm = L.noB
    · subst hn
      by_cases hA : ats = []
      · subst hA
        rw [if_neg (by simp)] at HR1
        have HR2 := hid HR1
        clear HR1
        unfold L.noB
        simp only [List.length_nil] at *
        go_wp2_with fail
        refine (unfit_any tx F.out.2.2.2.1 (HT.out.below HB1.out)).mono ?_
        rintro e w3 ⟨rfl, hb3⟩
        have HB3 := hid (HB1.out.trans (hb3.mono HB1.out.size))
        clear hb3
        rw [HR2.out]
        go_wp2
        go_ret
        exact ⟨rfl, HB3.out⟩
      · obtain rfl : r = 68 := by rw [← HR1, if_pos (Or.inr hA)]
        have hA' : (0 : Int) < (ats.length : Int) := by have := List.length_pos_iff.2 hA; omega
        clear HR1 hA
        unfold L.noB at *
        go_wp2
        go_ret
        exact ⟨rfl, HB1.out⟩
    · obtain rfl : r = 68 := by rw [← HR1, if_pos (Or.inl hn)]
      have hn' := neq_empty nm hn
      clear HR1 hn
      go_wp2
      go_ret
      exact ⟨rfl, HB1.out⟩
  · rw [if_neg h2] at HR1
    have h2' : (kd == 2) = false := beq_eq_false_iff_ne.2 h2
    by_cases h1 : kd = 1
    · by_cases hx : tx = L.noB
      · rw [if_neg (by simp [h1, hx])] at HR1
        subst h1 hx
        clear h2 h2'
        unfold L.noB at HB1 ⊢
        go_wp2_with fail
        refine (misnamed_any ⟨lv, 1, nm, ⟨#[]⟩, ats⟩ (.slice ao ats.length cap) (hid (I.out.below HB1.out)) F (HT.out.below HB1.out)).mono ?_
        rintro e w3 ⟨rfl, hb3⟩
        have HB3 := hid (HB1.out.trans (hb3.mono HB1.out.size))
        clear hb3
        dsimp only
        have HR2 := hid HR1
        clear HR1
        rw [HR2.out]
        go_wp2
        go_ret
        exact ⟨rfl, HB3.out⟩
      · obtain rfl : r = 68 := by rw [← HR1, if_pos (Or.inr hx)]
        have hx' := neq_empty tx hx
        subst h1
        clear HR1 hx h2 h2'
        go_wp2
        go_ret
        exact ⟨rfl, HB1.out⟩
    · obtain rfl : r = 68 := by rw [← HR1, if_pos (Or.inl h1)]
      have h1' : (kd == 1) = false := beq_eq_false_iff_ne.2 h1
      clear HR1 h1 h2
      go_wp2
      go_ret
      exact ⟨rfl, HB1.out⟩
/-- The item ahead of one. -/
def prevO (l : List P.Itm) (k : Nat) : Option P.Itm := if k = 0 then none else l[k - 1]?
variable {V : Value} {l : List IV}
set_option maxRecDepth 100000 in
set_option maxHeartbeats 4000000 in
theorem stands_any (I : Hid (ItemsIn V l w)) (k : Nat) (hk : k < l.length) (hp : ∀ q (_ : q < l.length), k = q + 1 → l[q].1.level < 40 ∧ -9223372036854775808 ≤ l[q].1.level) : Calls Tryz.prog 29 #[V, .int .i64 (k : Int)] w fun e w' => e = .returned (.bool (P.standsB (prevO (l.map (·.1)) k) l[k].1)) ∧ Below w.heap.size w w' := by
  obtain ⟨ao, cap, rfl, hl, hc⟩ := I.out.1
  obtain ⟨g, o, rfl, hg, hc⟩ := hc (by rintro rfl; simp at hk)
  obtain ⟨c0, c1, c2, c3, c4⟩ := hc k hk
  have hA := I.out.2 _ (List.getElem_mem hk)
  obtain ⟨aoA, capA, eA, -, -⟩ := hA
  rw [eA] at c4
  have hk' : (k : Int) < (l.length : Int) := by omega
  have HB1 : Hid (Below w.heap.size w (w.alloc (.cells #[.int .i64 l[k].1.level, .int .i64 l[k].1.kind, .string l[k].1.name, .string l[k].1.text, .slice aoA l[k].1.attrs.length capA] 34))) := hid ((Below.refl _ _).alloc (Nat.le_refl _) _)
  obtain ⟨r, HR⟩ : ∃ r, Hid (P.standsB (prevO (l.map (·.1)) k) l[k].1 = r) := ⟨_, hid rfl⟩
  rw [HR.out]
  rcases Nat.eq_zero_or_pos k with rfl | hpos
  · have HR1 : (decide (l[0].1.level = 0) && decide (l[0].1.kind = 1)) = r := HR.out
    clear HR hc eA I hp
    simp only [Nat.zero_mul, Nat.add_zero] at c0 c1 c2 c3 c4
    rw [show ((0 : Nat) : Int) = 0 from rfl] at hk' ⊢
    generalize l[0].1.attrs.length = na at *
    generalize l[0].1.level = lv at *
    generalize l[0].1.kind = kd at *
    go_enter Tryz.func29, Tryz.ntmps29
    by_cases h0 : lv = 0
    · subst h0
      by_cases h1 : kd = 1
      · subst h1
        obtain rfl : r = true := by rw [← HR1]; rfl
        clear HR1
        go_wp2
        go_ret
        exact ⟨rfl, HB1.out⟩
      · obtain rfl : r = false := by rw [← HR1]; simp [h1]
        have h1' : (kd == 1) = false := beq_eq_false_iff_ne.2 h1
        clear HR1 h1
        go_wp2
        go_ret
        exact ⟨rfl, HB1.out⟩
    · obtain rfl : r = false := by rw [← HR1]; simp [h0]
      have h0' : (lv == 0) = false := beq_eq_false_iff_ne.2 h0
      clear HR1 h0
      go_wp2
      go_ret
      exact ⟨rfl, HB1.out⟩
  · obtain ⟨q, rfl⟩ : ∃ q, k = q + 1 := ⟨k - 1, by omega⟩
    have hq : q < l.length := by omega
    obtain ⟨hp1, hp2⟩ := hp q hq rfl
    obtain ⟨d0, d1, _, _, _⟩ := hc q hq
    have HR1 : (decide (1 ≤ l[q + 1].1.level) && decide (l[q + 1].1.level ≤ l[q].1.level + (if l[q].1.kind = 1 then 1 else 0))) = r := by
      rw [← HR.out]
      simp [prevO, hq, P.standsB]
    have e0 : (w.alloc (.cells #[.int .i64 l[q + 1].1.level, .int .i64 l[q + 1].1.kind, .string l[q + 1].1.name, .string l[q + 1].1.text, .slice aoA l[q + 1].1.attrs.length capA] 34)).cell? ⟨g, o + q * 5, none⟩ = some (.int .i64 l[q].1.level) := by rw [World.cell?_alloc_past _ _ _ hg]; exact d0
    have e1 : (w.alloc (.cells #[.int .i64 l[q + 1].1.level, .int .i64 l[q + 1].1.kind, .string l[q + 1].1.name, .string l[q + 1].1.text, .slice aoA l[q + 1].1.attrs.length capA] 34)).cell? ⟨g, o + q * 5 + 1, none⟩ = some (.int .i64 l[q].1.kind) := by rw [World.cell?_alloc_past _ _ _ hg]; exact d1
    have hq' : (q : Int) < (l.length : Int) := by omega
    clear HR hc eA I hp d0 d1 hpos
    generalize l[q + 1].1.attrs.length = na at *
    generalize l[q + 1].1.level = lv at *
    generalize l[q + 1].1.kind = kd at *
    generalize l[q].1.level = pl at *
    generalize l[q].1.kind = pk at *
    go_enter Tryz.func29, Tryz.ntmps29
    by_cases h1 : pk = 1
    · subst h1
      rw [if_pos rfl] at HR1
      by_cases h2 : 1 ≤ lv
      · by_cases h3 : lv ≤ pl + 1
        · obtain rfl : r = true := by rw [← HR1]; simp [h2, h3]
          clear HR1
          go_wp2
          go_ret
          exact ⟨rfl, HB1.out⟩
        · obtain rfl : r = false := by rw [← HR1]; simp [h3]
          clear HR1
          go_wp2
          go_ret
          exact ⟨rfl, HB1.out⟩
      · obtain rfl : r = false := by rw [← HR1]; simp [h2]
        clear HR1
        go_wp2
        go_ret
        exact ⟨rfl, HB1.out⟩
    · have h1' : (pk == 1) = false := beq_eq_false_iff_ne.2 h1
      rw [if_neg h1] at HR1
      clear h1
      by_cases h2 : 1 ≤ lv
      · by_cases h3 : lv ≤ pl
        · obtain rfl : r = true := by rw [← HR1]; simp [h2, h3]
          clear HR1
          go_wp2
          go_ret
          exact ⟨rfl, HB1.out⟩
        · obtain rfl : r = false := by rw [← HR1]; simp [h3]
          clear HR1
          go_wp2
          go_ret
          exact ⟨rfl, HB1.out⟩
      · obtain rfl : r = false := by rw [← HR1]; simp [h2]
        clear HR1
        go_wp2
        go_ret
        exact ⟨rfl, HB1.out⟩
set_option maxRecDepth 100000 in
set_option maxHeartbeats 4000000 in
theorem misplaced_any (I : Hid (ItemsIn V l w)) (k : Nat) (hk : k < l.length) (hp : ∀ q (_ : q < l.length), k = q + 1 → l[q].1.level < 40 ∧ -9223372036854775808 ≤ l[q].1.level) : Calls Tryz.prog 17 #[V, .int .i64 (k : Int)] w fun e w' => e = .returned (.int .i64 (P.placeE (prevO (l.map (·.1)) k) k l[k].1)) ∧ Below w.heap.size w w' := by
  obtain ⟨ao, cap, rfl, hl, hc⟩ := I.out.1
  obtain ⟨g, o, rfl, hg, hc⟩ := hc (by rintro rfl; simp at hk)
  have hk' : (k : Int) < (l.length : Int) := by omega
  obtain ⟨r, HR⟩ : ∃ r, Hid (P.placeE (prevO (l.map (·.1)) k) k l[k].1 = r) := ⟨_, hid rfl⟩
  rw [HR.out]
  have HR1 := HR.out
  unfold P.placeE at HR1
  clear HR
  go_enter Tryz.func17, Tryz.ntmps17
  go_wp2_with fail
  refine (stands_any I k hk hp).mono ?_
  rintro e w1 ⟨rfl, hb1⟩
  have c0 : w1.cell? ⟨g, o + k * 5, none⟩ = some (.int .i64 l[k].1.level) := (hb1.cell (p := ⟨g, o + k * 5, none⟩) hg).trans (hc k hk).1
  have HB1 := hid hb1
  clear hb1 hc I hp
  generalize P.standsB (prevO (l.map (·.1)) k) l[k].1 = st at *
  generalize l[k].1.level = lv at *
  cases st with
  | false =>
    rw [if_pos rfl] at HR1
    subst HR1
    go_wp2
    go_ret
    exact ⟨rfl, HB1.out⟩
  | true =>
    rw [if_neg (by simp)] at HR1
    by_cases h1 : 40 ≤ lv
    · rw [if_pos h1] at HR1
      subst HR1
      go_wp2
      go_ret
      exact ⟨rfl, HB1.out⟩
    · rw [if_neg h1] at HR1
      by_cases h2 : 1000 ≤ k
      · rw [if_pos h2] at HR1
        subst HR1
        have h2' : (1000 : Int) ≤ (k : Int) := by omega
        go_wp2
        go_ret
        exact ⟨rfl, HB1.out⟩
      · rw [if_neg h2] at HR1
        subst HR1
        have h2' : ¬ (1000 : Int) ≤ (k : Int) := by omega
        go_wp2
        go_ret
        exact ⟨rfl, HB1.out⟩
theorem P.check_cons (prev : Option P.Itm) (k : Nat) (x : P.Itm) (l : List P.Itm) : P.checkF prev k (x :: l) = if P.itemE prev k x ≠ 0 then ((k : Int), P.itemE prev k x) else P.checkF (some x) (k + 1) l := rfl
set_option maxRecDepth 100000 in
set_option maxHeartbeats 4000000 in
theorem check_any (I : Hid (ItemsIn V l w)) (F : Hid (∀ x ∈ l, FitC x.1)) (ht : Tab w) (a b : Int) (HR : Hid (P.checkP (l.map (·.1)) = (a, b))) : Calls Tryz.prog 9 #[V] w fun e w' => e = .returned (.tuple #[.int .i64 a, .int .i64 b]) ∧ Below w.heap.size w w' := by
  have HT := hid ht
  clear ht
  obtain ⟨ao, cap, rfl, hl, hc⟩ := I.out.1
  have HCC := hid hc
  clear hc
  go_enter Tryz.func9, Tryz.ntmps9
  by_cases h0 : l = []
  · subst h0
    have h1 := HR.out
    simp only [P.checkP, List.map_nil, if_true, Prod.mk.injEq] at h1
    obtain ⟨rfl, rfl⟩ := h1
    clear HR HCC I F
    simp only [List.length_nil]
    go_wp2
    go_ret2
    exact ⟨rfl, Below.refl _ _⟩
  · have h1 : ((l.length : Int) == 0) = false := beq_eq_false_iff_ne.2 (by have := List.length_pos_iff.2 h0; omega)
    have HR1 : Hid (P.checkF (prevO (l.map (·.1)) 0) 0 ((l.map (·.1)).drop 0) = (a, b)) := hid (by
      have := HR.out
      unfold P.checkP at this
      rwa [if_neg (by simpa using h0)] at this)
    clear HR
    go_wp2
    go_loopw [11] (fun v11 W => ∃ k : Nat, v11 = .int .i64 (k : Int) ∧ k ≤ l.length ∧ Hid (P.checkF (prevO (l.map (·.1)) k) k ((l.map (·.1)).drop k) = (a, b)) ∧ Hid (∀ q (_ : q < l.length), k = q + 1 → l[q].1.level < 40 ∧ -9223372036854775808 ≤ l[q].1.level) ∧ Hid (Below w.heap.size w W)) (fun v11 _ => l.length - (intOf v11).toNat)
    case atStart => exact ⟨0, rfl, by omega, HR1, hid (fun q _ h => by omega), hid (Below.refl _ _)⟩
    case round =>
      clear HR1
      obtain ⟨k, rfl, hk, HR, HP, HB⟩ := hrel
      by_cases hlt : k < l.length
      · have hlt' : (k : Int) < (l.length : Int) := by omega
        obtain ⟨g, o, rfl, hg, hc⟩ := HCC.out h0
        obtain ⟨k0, k1, k2, k3, k4⟩ := hc k hlt
        have HR2 : Hid ((if P.itemE (prevO (l.map (·.1)) k) k l[k].1 ≠ 0 then ((k : Int), P.itemE (prevO (l.map (·.1)) k) k l[k].1) else P.checkF (some l[k].1) (k + 1) ((l.map (·.1)).drop (k + 1))) = (a, b)) := hid (by
          have := HR.out
          rw [List.drop_eq_getElem_cons (by simpa using hlt), P.check_cons] at this
          simpa using this)
        have I1 := hid (I.out.below HB.out)
        have HA := hid (I.out.2 _ (List.getElem_mem hlt))
        have HF := hid (F.out _ (List.getElem_mem hlt))
        have HK := hid (⟨k0, k1, k2, k3, k4⟩ : _ ∧ _ ∧ _ ∧ _ ∧ _)
        obtain ⟨aoA, capA, eA, -, -⟩ := HA.out
        clear HR hc k0 k1 k2 k3 k4
        go_wp2_with fail
        refine (misplaced_any I1 k hlt HP.out).mono ?_
        rintro e w1 ⟨rfl, hb1⟩
        have HB1 := hid (HB.out.trans (hb1.mono HB.out.size))
        clear hb1 I1
        by_cases hE : P.placeE (prevO (l.map (·.1)) k) k l[k].1 = 0
        · have c0 : w1.cell? ⟨g, o + k * 5, none⟩ = some (.int .i64 l[k].1.level) := (HB1.out.cell (p := ⟨g, o + k * 5, none⟩) hg).trans HK.out.1
          have c1 : w1.cell? ⟨g, o + k * 5 + 1, none⟩ = some (.int .i64 l[k].1.kind) := (HB1.out.cell (p := ⟨g, o + k * 5 + 1, none⟩) hg).trans HK.out.2.1
          have c2 : w1.cell? ⟨g, o + k * 5 + 2, none⟩ = some (.string l[k].1.name) := (HB1.out.cell (p := ⟨g, o + k * 5 + 2, none⟩) hg).trans HK.out.2.2.1
          have c3 : w1.cell? ⟨g, o + k * 5 + 3, none⟩ = some (.string l[k].1.text) := (HB1.out.cell (p := ⟨g, o + k * 5 + 3, none⟩) hg).trans HK.out.2.2.2.1
          have c4 : w1.cell? ⟨g, o + k * 5 + 4, none⟩ = some (.slice aoA l[k].1.attrs.length capA) := ((HB1.out.cell (p := ⟨g, o + k * 5 + 4, none⟩) hg).trans HK.out.2.2.2.2).trans (by rw [eA])
          have HE := hid hE
          have HA1 : Hid (AttrsIn (.slice aoA l[k].1.attrs.length capA) l[k].1.attrs w1) := hid (eA ▸ HA.out.below HB1.out)
          rw [hE]
          clear hE HK eA HA
          go_wp2_with fail
          refine (misshapen_any l[k].1 (.slice aoA l[k].1.attrs.length capA) HA1 HF (HT.out.below HB1.out)).mono ?_
          rintro e w2 ⟨rfl, hb2⟩
          have HB2 := hid (HB1.out.trans (hb2.mono HB1.out.size))
          have hI : P.itemE (prevO (l.map (·.1)) k) k l[k].1 = P.partsE l[k].1 := by
            unfold P.itemE
            rw [if_neg (by simp [HE.out])]
          clear hb2 c0 c1 c2 c3 c4 HA1
          by_cases hq : P.partsE l[k].1 = 0
          · have HR3 : Hid (P.checkF (prevO (l.map (·.1)) (k + 1)) (k + 1) ((l.map (·.1)).drop (k + 1)) = (a, b)) := hid (by
              have := HR2.out
              rw [hI, hq, if_neg (by simp)] at this
              simpa [prevO, hlt] using this)
            have HP2 : Hid (∀ q (_ : q < l.length), k + 1 = q + 1 → l[q].1.level < 40 ∧ -9223372036854775808 ≤ l[q].1.level) := hid (fun q hq2 e => by
              obtain rfl : q = k := by omega
              exact ⟨(P.item_ok (hI.trans hq)).2.1, HF.out.1.1⟩)
            rw [hq]
            clear hI hq HR2 HE HF
            go_wp2
            go_roundw
            case rel => exact ⟨k + 1, by go_num, by omega, HR3, HP2, HB2⟩
            case measure => (simp [intOf]; try omega)
          · have h2 := HR2.out
            rw [hI, if_pos hq] at h2
            simp only [Prod.mk.injEq] at h2
            obtain ⟨rfl, h3⟩ := h2
            rw [h3] at hq ⊢
            have hq' : (b == 0) = false := beq_eq_false_iff_ne.2 hq
            clear hI hq HR2 HE HF h3
            go_wp2
            go_ret2
            exact ⟨rfl, HB2.out⟩
        · have hI : P.itemE (prevO (l.map (·.1)) k) k l[k].1 = P.placeE (prevO (l.map (·.1)) k) k l[k].1 := by
            unfold P.itemE
            rw [if_pos hE]
          have h2 := HR2.out
          rw [hI, if_pos hE] at h2
          simp only [Prod.mk.injEq] at h2
          obtain ⟨rfl, h3⟩ := h2
          rw [h3] at hE ⊢
          have hq' : (b == 0) = false := beq_eq_false_iff_ne.2 hE
          clear hI hE HR2 HF h3 HK HA eA
          go_wp2
          go_ret2
          exact ⟨rfl, HB1.out⟩
      · have hlt' : ¬ (k : Int) < (l.length : Int) := by omega
        have h2 := HR.out
        rw [List.drop_eq_nil_of_le (by simp; omega)] at h2
        simp only [P.checkF, Prod.mk.injEq] at h2
        obtain ⟨rfl, rfl⟩ := h2
        clear HR HP
        go_wp2
        go_ret2
        exact ⟨rfl, HB.out⟩
end
end Go.Proofs.YtafjffnijonglaaGreatDoor
namespace Go.Proofs.YtafjffnijonglaaGreatDoor
open Go.RowKit Go.Shelf Go.Sort
/-- What is asked of an item's parts where they come from outside, in the second form. -/
def FitU (x : P.Itm) : Prop := (-9223372036854775808 ≤ x.level ∧ x.level ≤ 9223372036854775807) ∧ (-9223372036854775808 ≤ x.kind ∧ x.kind ≤ 9223372036854775807) ∧ x.name.size ≤ 1048576 ∧ x.text.size ≤ 1048576 ∧ ∀ a ∈ x.attrs, a.1.size ≤ 1048576 ∧ a.2.size ≤ 1048576
theorem FitU.fit {x : P.Itm} (h : FitU x) : FitC x := by
  obtain ⟨h1, h2, h3, h4, h5⟩ := h
  refine ⟨h1, h2, ?_, ?_, fun a ha => ⟨?_, ?_⟩⟩
  · unfold maxLen; omega
  · unfold maxLen; omega
  · have := (h5 a ha).1; unfold maxLen; omega
  · have := (h5 a ha).2; unfold maxLen; omega
theorem P.name_ne' {b : ByteArray} (h : L.nameP b = true) : L.ltB L.noB b = true := by
  unfold L.ltB
  have : b.data.toList ≠ [] := by
    intro q
    unfold L.nameP at h
    rw [q] at h
    revert h
    decide
  cases hb : b.data.toList with
  | nil => exact absurd hb this
  | cons x l => simp [L.noB]
section
variable {w : World}
set_option maxRecDepth 100000 in
set_option maxHeartbeats 1000000 in
theorem rchars_any (s : ByteArray) (hs : s.size ≤ 1048576) : Calls Tryz.prog 50 #[.string s] w fun e w' => e = .returned (.int .i64 (P.unfitE s)) ∧ Below w.heap.size w w' := by
  obtain ⟨c, HC⟩ : ∃ c, Hid (G.countZ s.data.toList = c) := ⟨_, hid rfl⟩
  obtain ⟨r, HR⟩ : ∃ r, Hid (P.unfitE s = r) := ⟨_, hid rfl⟩
  rw [HR.out]
  have HR2 := HR.out
  unfold P.unfitE at HR2
  rw [HC.out] at HR2
  clear HR
  go_enter Tryz.func50, Tryz.ntmps50
  go_wp2_with fail
  refine (rcount_any s c w hs HC).mono ?_
  rintro e w1 ⟨rfl, hb⟩
  have HB := hid hb
  clear hb HC
  by_cases h1 : c < 0
  · rw [if_pos h1] at HR2
    subst HR2
    go_wp2
    go_ret
    exact ⟨rfl, HB.out⟩
  · rw [if_neg h1] at HR2
    by_cases h2 : 1500 < s.size
    · rw [if_pos h2] at HR2
      subst HR2
      have h2' : (1500 : Int) < (s.size : Int) := by omega
      go_wp2
      go_ret
      exact ⟨rfl, HB.out⟩
    · rw [if_neg h2] at HR2
      subst HR2
      have h2' : ¬ (1500 : Int) < (s.size : Int) := by omega
      go_wp2
      go_ret
      exact ⟨rfl, HB.out⟩
/-- The name ahead of an attribute's. -/
def prevN (l : List L.Attr) (q : Nat) : ByteArray := if h : 0 < q ∧ q - 1 < l.length then (l[q - 1]'h.2).1 else L.noB
set_option maxRecDepth 100000 in
set_option maxHeartbeats 8000000 in
theorem rparts_any (x : P.Itm) (v : Value) (I : Hid (AttrsIn v x.attrs w)) (F : Hid (FitU x)) : Calls Tryz.prog 32 #[itmV x v] w fun e w' => e = .returned (.int .i64 (P.partsE x)) ∧ Below w.heap.size w w' := by
  obtain ⟨r, HR⟩ : ∃ r, Hid (P.partsE x = r) := ⟨_, hid rfl⟩
  rw [HR.out]
  obtain ⟨lv, kd, nm, tx, ats⟩ := x
  have HR1 := HR.out
  unfold P.partsE at HR1
  dsimp only at HR1
  clear HR
  obtain ⟨ao, cap, rfl, hl, hc⟩ := I.out
  have HCC := hid hc
  clear hc
  have HB1 : Hid (Below w.heap.size w (w.alloc (.cells #[.int .i64 lv, .int .i64 kd, .string nm, .string tx, .slice ao ats.length cap] 34))) := hid ((Below.refl _ _).alloc (Nat.le_refl _) _)
  have bI : Hid ((w.alloc (.cells #[.int .i64 lv, .int .i64 kd, .string nm, .string tx, .slice ao ats.length cap] 34)).heap[w.heap.size]? = some (.cells #[.int .i64 lv, .int .i64 kd, .string nm, .string tx, .slice ao ats.length cap] 34 (0, 0))) := hid (heap_alloc_new w _)
  dsimp only at *
  unfold itmV
  dsimp only
  go_enter Tryz.func32, Tryz.ntmps32
  by_cases h2 : kd = 2
  · rw [if_pos h2] at HR1
    subst h2
    by_cases hn : nm = L.noB
    · subst hn
      by_cases hA : ats = []
      · subst hA
        rw [if_neg (by simp)] at HR1
        have HR2 := hid HR1
        clear HR1 bI
        unfold L.noB at *
        simp only [List.length_nil] at *
        go_wp2_with fail
        refine (rchars_any tx F.out.2.2.2.1).mono ?_
        rintro e w3 ⟨rfl, hb3⟩
        have HB3 := hid (HB1.out.trans (hb3.mono HB1.out.size))
        clear hb3
        rw [HR2.out]
        go_wp2
        go_ret
        exact ⟨rfl, HB3.out⟩
      · obtain rfl : r = 68 := by rw [← HR1, if_pos (Or.inr hA)]
        have hA' : (0 : Int) < (ats.length : Int) := by have := List.length_pos_iff.2 hA; omega
        clear HR1 hA bI
        unfold L.noB at *
        go_wp2
        go_ret
        exact ⟨rfl, HB1.out⟩
    · obtain rfl : r = 68 := by rw [← HR1, if_pos (Or.inl hn)]
      have hn' := neq_empty nm hn
      clear HR1 hn bI
      go_wp2
      go_ret
      exact ⟨rfl, HB1.out⟩
  · rw [if_neg h2] at HR1
    have h2' : (kd == 2) = false := beq_eq_false_iff_ne.2 h2
    by_cases h1 : kd = 1
    · by_cases hx : tx = L.noB
      · rw [if_neg (by simp [h1, hx])] at HR1
        subst h1 hx
        clear h2 h2'
        unfold L.noB at HB1 bI ⊢
        have HR0 := hid HR1
        clear HR1
        cases hn : L.nameP nm with
        | false =>
          obtain rfl : r = 63 := by rw [← HR0.out, hn]; simp
          have HN : Hid (G.nameB nm.data.toList = false) := hid hn
          clear hn HR0 bI
          go_wp2_with fail
          refine (rname_any nm false _ F.out.2.2.1 HN).mono ?_
          rintro e w2 ⟨rfl, hb2⟩
          have HB3 := hid (HB1.out.trans (hb2.mono HB1.out.size))
          clear hb2
          go_wp2
          go_ret
          exact ⟨rfl, HB3.out⟩
        | true =>
          have HN : Hid (G.nameB nm.data.toList = true) := hid hn
          have HR2 : Hid ((if P.riseF L.noB ats = false then 63 else if 20 < ats.length then 67 else P.valsE ats) = r) := hid (by rw [← HR0.out, hn]; simp)
          clear hn HR0
          go_wp2_with fail
          refine (rname_any nm true _ F.out.2.2.1 HN).mono ?_
          rintro e w2 ⟨rfl, hb2⟩
          have HB3 := hid (HB1.out.trans (hb2.mono HB1.out.size))
          have bI2 := hid ((hb2.block _ (lt_of_block bI.out)).trans bI.out)
          clear hb2 bI HB1
          obtain ⟨rs, HRS⟩ : ∃ rs, Hid (P.riseF L.noB ats = rs) := ⟨_, hid rfl⟩
          have HR3 : Hid ((if rs = false then 63 else if 20 < ats.length then 67 else P.valsE ats) = r) := hid (by rw [← HR2.out, HRS.out])
          clear HR2
          have HRS2 : Hid (P.riseF (prevN ats 0) (ats.drop 0) = rs) := HRS
          clear HRS
          go_wp2
          go_loopw [3] (fun v3 W => ∃ q : Nat, v3 = .int .i64 (q : Int) ∧ q ≤ ats.length ∧ Hid (P.riseF (prevN ats q) (ats.drop q) = rs) ∧ Hid (W.heap[w.heap.size]? = some (.cells #[.int .i64 lv, .int .i64 1, .string nm, .string ⟨#[]⟩, .slice ao ats.length cap] 34 (0, 0))) ∧ Hid (Below w.heap.size w W)) (fun v3 _ => ats.length - (intOf v3).toNat)
          case atStart => exact ⟨0, rfl, by omega, HRS2, bI2, HB3⟩
          case round =>
            clear HRS2 bI2 HB3
            obtain ⟨q, rfl, hq, HRS, HI, HB⟩ := hrel
            have d4 : wr.cell? ⟨w.heap.size, 4, none⟩ = some (.slice ao ats.length cap) := by rw [cell_of_row _ w.heap.size 4 _ _ _ HI.out]; rfl
            by_cases h1 : q < ats.length
            · have h1' : (q : Int) < (ats.length : Int) := by omega
              obtain ⟨g, o, rfl, hg, hc⟩ := HCC.out (by rintro rfl; simp at h1)
              obtain ⟨k0, k1⟩ := hc q h1
              have c0 : wr.cell? ⟨g, o + q * 2, none⟩ = some (.string ats[q].1) := (HB.out.cell (p := ⟨g, o + q * 2, none⟩) hg).trans k0
              have hF := (F.out.2.2.2.2 _ (List.getElem_mem h1)).1
              have HR4 : Hid ((L.nameP ats[q].1 && L.ltB (prevN ats q) ats[q].1 && P.riseF ats[q].1 (ats.drop (q + 1))) = rs) := hid (by rw [← P.rise_cons, ← List.drop_eq_getElem_cons h1]; exact HRS.out)
              have PN : Hid (prevN ats (q + 1) = ats[q].1) := hid (by unfold prevN; rw [dif_pos ⟨by omega, by simpa using h1⟩]; rfl)
              have PC : Hid (∀ p, q = p + 1 → wr.cell? ⟨g, o + p * 2, none⟩ = some (.string (prevN ats q))) := hid (fun p hp => by
                subst hp
                have := (hc p (by omega)).1
                rw [show prevN ats (p + 1) = ats[p].1 by unfold prevN; rw [dif_pos ⟨by omega, by simp; omega⟩]; rfl]
                exact (HB.out.cell (p := ⟨g, o + p * 2, none⟩) hg).trans this)
              clear k0 k1 hc HRS
              have HN1 : Hid (∀ z, G.nameB ats[q].1.data.toList = z → ∀ d os, Calls Tryz.prog 41 #[.string ats[q].1] (grow (redrawn wr d) os) fun e w'' => e = .returned (.bool z) ∧ ∃ p : Regrown, w'' = grow (redrawn wr p.d) p.os) := hid (fun z hz d os => Calls.regrown_of (rname_any ats[q].1 z _ hF (hid hz)))
              generalize ats[q].1 = an at *
              go_wp2
              have D4 := cell_regrown d4
              have C0 := cell_regrown c0
              cases hn : L.nameP an with
              | false =>
                obtain rfl : rs = false := by rw [← HR4.out, hn]; rfl
                obtain rfl : r = 63 := by rw [← HR3.out]; rfl
                have CN := hid (HN1.out false hn)
                clear hn HR4 HN1 PC
                refine wp_region_quiet_below (by kernel_rfl) (by kernel_rfl) ?_
                repeat (first | go_big_quiet_step (exact CN.out _ _) | quiet_step (exact CN.out _ _))
                refine wpQuiet_nil ?_
                rintro _ ⟨⟨dq, osq⟩, rfl⟩
                have HB5 := hid (HB.out.trans ((below_regrown wr dq osq).mono HB.out.size))
                generalize grow (redrawn wr dq) osq = W5 at *
                go_wp2
                go_ret
                exact ⟨rfl, HB5.out⟩
              | true =>
                have CN := hid (HN1.out true hn)
                have HR5 : Hid ((L.ltB (prevN ats q) an && P.riseF an (ats.drop (q + 1))) = rs) := hid (by rw [← HR4.out, hn]; simp)
                have HNE : Hid (L.ltB L.noB an = true) := hid (P.name_ne' hn)
                clear hn HR4 HN1
                rcases Nat.eq_zero_or_pos q with hz | hpos
                · have HR6 : Hid (P.riseF (prevN ats (q + 1)) (ats.drop (q + 1)) = rs) := hid (by
                    have := HR5.out
                    rw [hz] at this
                    rw [show prevN ats 0 = L.noB from rfl, HNE.out] at this
                    rw [PN.out, hz]; simpa using this)
                  have hd : decide ((0 : Int) < (q : Int)) = false := decide_eq_false (by omega)
                  have hd2 : decide (0 < q) = false := decide_eq_false (by omega)
                  clear HR5 HNE PC PN hz
                  refine wp_region_quiet_below (by kernel_rfl) (by kernel_rfl) ?_
                  repeat (first | go_big_quiet_step (exact CN.out _ _) | quiet_step (exact CN.out _ _))
                  refine wpQuiet_nil ?_
                  rintro _ ⟨⟨dq, osq⟩, rfl⟩
                  have HB5 := hid (HB.out.trans ((below_regrown wr dq osq).mono HB.out.size))
                  have HI5 := hid (((below_regrown wr dq osq).block _ (lt_of_block HI.out)).trans HI.out)
                  clear D4 C0 CN
                  generalize grow (redrawn wr dq) osq = W5 at *
                  go_wp2
                  go_roundw
                  case rel => exact ⟨q + 1, by go_num, by omega, HR6, HI5, HB5⟩
                  case measure => (simp [intOf]; try omega)
                · obtain ⟨p, rfl⟩ : ∃ p, q = p + 1 := ⟨q - 1, by omega⟩
                  have E0 := cell_regrown (PC.out p rfl)
                  generalize prevN ats (p + 1) = pn at *
                  have lq := leq_eq an pn
                  have hp1 : (p : Int) < (ats.length : Int) := by omega
                  have hd : decide ((0 : Int) < ((p + 1 : Nat) : Int)) = true := decide_eq_true (by omega)
                  have hd' : decide ((0 : Int) < (p : Int) + 1) = true := decide_eq_true (by omega)
                  clear PC HNE
                  cases hlt : L.ltB pn an with
                  | false =>
                    obtain rfl : rs = false := by rw [← HR5.out, hlt]; rfl
                    obtain rfl : r = 63 := by rw [← HR3.out]; rfl
                    rw [hlt] at lq
                    simp only [Bool.not_false] at lq
                    clear HR5 hlt
                    refine wp_region_quiet_below (by kernel_rfl) (by kernel_rfl) ?_
                    repeat (first | go_big_quiet_step (exact CN.out _ _) | quiet_step (exact CN.out _ _))
                    refine wpQuiet_nil ?_
                    rintro _ ⟨⟨dq, osq⟩, rfl⟩
                    have HB5 := hid (HB.out.trans ((below_regrown wr dq osq).mono HB.out.size))
                    clear D4 C0 CN E0
                    generalize grow (redrawn wr dq) osq = W5 at *
                    go_wp2
                    go_ret
                    exact ⟨rfl, HB5.out⟩
                  | true =>
                    have HR6 : Hid (P.riseF (prevN ats (p + 1 + 1)) (ats.drop (p + 1 + 1)) = rs) := hid (by rw [PN.out, ← HR5.out, hlt]; simp)
                    rw [hlt] at lq
                    simp only [Bool.not_true] at lq
                    clear HR5 hlt PN
                    refine wp_region_quiet_below (by kernel_rfl) (by kernel_rfl) ?_
                    repeat (first | go_big_quiet_step (exact CN.out _ _) | quiet_step (exact CN.out _ _))
                    refine wpQuiet_nil ?_
                    rintro _ ⟨⟨dq, osq⟩, rfl⟩
                    have HB5 := hid (HB.out.trans ((below_regrown wr dq osq).mono HB.out.size))
                    have HI5 := hid (((below_regrown wr dq osq).block _ (lt_of_block HI.out)).trans HI.out)
                    clear D4 C0 CN E0 lq
                    generalize grow (redrawn wr dq) osq = W5 at *
                    go_wp2
                    go_roundw
                    case rel => exact ⟨p + 1 + 1, by go_num, by omega, HR6, HI5, HB5⟩
                    case measure => (simp [intOf]; try omega)
            · have h1' : ¬ (q : Int) < (ats.length : Int) := by omega
              obtain rfl : rs = true := by rw [← HRS.out, List.drop_eq_nil_of_le (by omega)]; rfl
              have HR4 : Hid ((if 20 < ats.length then 67 else P.valsE ats) = r) := hid (by rw [← HR3.out]; simp)
              clear HRS HR3
              by_cases h20 : 20 < ats.length
              · obtain rfl : r = 67 := by rw [← HR4.out, if_pos h20]
                have h20' : (20 : Int) < (ats.length : Int) := by omega
                clear HR4 HCC
                go_wp2
                go_ret
                exact ⟨rfl, HB.out⟩
              · have h20' : ¬ (20 : Int) < (ats.length : Int) := by omega
                have HR5 : Hid (P.valsE (ats.drop 0) = r) := hid (by rw [← HR4.out, if_neg h20]; rfl)
                clear HR4
                go_wp2
                go_loopw [4] (fun v4 W => ∃ q : Nat, v4 = .int .i64 (q : Int) ∧ q ≤ ats.length ∧ Hid (P.valsE (ats.drop q) = r) ∧ Hid (W.heap[w.heap.size]? = some (.cells #[.int .i64 lv, .int .i64 1, .string nm, .string ⟨#[]⟩, .slice ao ats.length cap] 34 (0, 0))) ∧ Hid (Below w.heap.size w W)) (fun v4 _ => ats.length - (intOf v4).toNat)
                case atStart => exact ⟨0, rfl, by omega, HR5, HI, HB⟩
                case round =>
                  clear HR5 HI HB d4 h1 h1' hq
                  obtain ⟨q, rfl, hq, HR, HI, HB⟩ := hrel
                  have d4 : wr.cell? ⟨w.heap.size, 4, none⟩ = some (.slice ao ats.length cap) := by rw [cell_of_row _ w.heap.size 4 _ _ _ HI.out]; rfl
                  by_cases h1 : q < ats.length
                  · have h1' : (q : Int) < (ats.length : Int) := by omega
                    obtain ⟨g, o, rfl, hg, hc⟩ := HCC.out (by rintro rfl; simp at h1)
                    obtain ⟨k0, k1⟩ := hc q h1
                    have c1 : wr.cell? ⟨g, o + q * 2 + 1, none⟩ = some (.string ats[q].2) := (HB.out.cell (p := ⟨g, o + q * 2 + 1, none⟩) hg).trans k1
                    have hF2 := (F.out.2.2.2.2 _ (List.getElem_mem h1)).2
                    have HR2 : Hid ((if P.unfitE ats[q].2 ≠ 0 then P.unfitE ats[q].2 else P.valsE (ats.drop (q + 1))) = r) := hid (by rw [← P.vals_cons, ← List.drop_eq_getElem_cons h1]; exact HR.out)
                    clear k0 k1 hc HR
                    generalize ats[q].2 = av at *
                    go_wp2_with fail
                    refine (rchars_any av hF2).mono ?_
                    rintro e w5 ⟨rfl, hb5⟩
                    have HB5 := hid (HB.out.trans (hb5.mono HB.out.size))
                    have HI5 := hid ((hb5.block _ (lt_of_block HI.out)).trans HI.out)
                    clear hb5 HB HI
                    by_cases hu : P.unfitE av = 0
                    · have HR3 : Hid (P.valsE (ats.drop (q + 1)) = r) := hid (by rw [← HR2.out, if_neg (by simp [hu])])
                      rw [hu]
                      clear hu HR2
                      go_wp2
                      go_roundw
                      case rel => exact ⟨q + 1, by go_num, by omega, HR3, HI5, HB5⟩
                      case measure => (simp [intOf]; try omega)
                    · have hE : P.unfitE av = r := by rw [← HR2.out, if_pos hu]
                      rw [hE] at hu ⊢
                      have hu' : (r == 0) = false := beq_eq_false_iff_ne.2 hu
                      clear hu hE HR2
                      go_wp2
                      go_ret
                      exact ⟨rfl, HB5.out⟩
                  · have h1' : ¬ (q : Int) < (ats.length : Int) := by omega
                    obtain rfl : r = 0 := by rw [← HR.out, List.drop_eq_nil_of_le (by omega)]; rfl
                    clear HR
                    go_wp2
                    go_ret
                    exact ⟨rfl, HB.out⟩
      · obtain rfl : r = 68 := by rw [← HR1, if_pos (Or.inr hx)]
        have hx' := neq_empty tx hx
        subst h1
        clear HR1 hx h2 h2' bI
        go_wp2
        go_ret
        exact ⟨rfl, HB1.out⟩
    · obtain rfl : r = 68 := by rw [← HR1, if_pos (Or.inl h1)]
      have h1' : (kd == 1) = false := beq_eq_false_iff_ne.2 h1
      have h1'' : (kd != 1) = true := by simpa using h1
      clear HR1 h1 h2 bI
      go_wp2
      go_ret
      exact ⟨rfl, HB1.out⟩
end
end Go.Proofs.YtafjffnijonglaaGreatDoor
namespace Go.Proofs.YtafjffnijonglaaGreatDoor
open Go.RowKit Go.Shelf Go.Sort
section
variable {w : World}
variable {V : Value} {l : List IV}
set_option maxRecDepth 100000 in
set_option maxHeartbeats 8000000 in
theorem rplace_any (I : Hid (ItemsIn V l w)) (F : Hid (∀ x ∈ l, FitU x.1)) (k : Nat) (hk : k < l.length) (hp : ∀ q (_ : q < l.length), k = q + 1 → (l[q].1.level < 40 ∧ -9223372036854775808 ≤ l[q].1.level) ∧ (l[q].1.kind = 1 ∨ l[q].1.kind = 2)) : Calls Tryz.prog 19 #[V, .int .i64 (k : Int)] w fun e w' => e = .returned (.int .i64 (P.itemE (prevO (l.map (·.1)) k) k l[k].1)) ∧ Below w.heap.size w w' := by
  obtain ⟨ao, cap, rfl, hl, hc⟩ := I.out.1
  obtain ⟨g, o, rfl, hg, hc⟩ := hc (by rintro rfl; simp at hk)
  obtain ⟨c0, c1, c2, c3, c4⟩ := hc k hk
  have hA := I.out.2 _ (List.getElem_mem hk)
  have HA := hid hA
  obtain ⟨aoA, capA, eA, -, -⟩ := hA
  rw [eA] at c4
  have HAT : Hid (AttrsIn (.slice aoA l[k].1.attrs.length capA) l[k].1.attrs w) := hid (eA ▸ HA.out)
  have HF := hid (F.out _ (List.getElem_mem hk))
  have hk' : (k : Int) < (l.length : Int) := by omega
  have HB1 : Hid (Below w.heap.size w (w.alloc (.cells #[.int .i64 l[k].1.level, .int .i64 l[k].1.kind, .string l[k].1.name, .string l[k].1.text, .slice aoA l[k].1.attrs.length capA] 34))) := hid ((Below.refl _ _).alloc (Nat.le_refl _) _)
  obtain ⟨r, HR⟩ : ∃ r, Hid (P.itemE (prevO (l.map (·.1)) k) k l[k].1 = r) := ⟨_, hid rfl⟩
  rw [HR.out]
  have HPC : Hid (∀ q (_ : q < l.length), k = q + 1 → (w.alloc (.cells #[.int .i64 l[k].1.level, .int .i64 l[k].1.kind, .string l[k].1.name, .string l[k].1.text, .slice aoA l[k].1.attrs.length capA] 34)).cell? ⟨g, o + q * 5, none⟩ = some (.int .i64 l[q].1.level) ∧ (w.alloc (.cells #[.int .i64 l[k].1.level, .int .i64 l[k].1.kind, .string l[k].1.name, .string l[k].1.text, .slice aoA l[k].1.attrs.length capA] 34)).cell? ⟨g, o + q * 5 + 1, none⟩ = some (.int .i64 l[q].1.kind)) := hid (fun q hq _ => by
    rw [World.cell?_alloc_past _ _ _ hg, World.cell?_alloc_past _ _ _ hg]
    exact ⟨(hc q hq).1, (hc q hq).2.1⟩)
  have HBK := hid (heap_alloc_new w (.cells #[.int .i64 l[k].1.level, .int .i64 l[k].1.kind, .string l[k].1.name, .string l[k].1.text, .slice aoA l[k].1.attrs.length capA] 34))
  have HLP : Hid (∀ q (hq : q < l.length), k = q + 1 → P.standsB (prevO (l.map (·.1)) k) l[k].1 = (decide (1 ≤ l[k].1.level) && decide (l[k].1.level ≤ l[q].1.level + (if l[q].1.kind = 1 then 1 else 0)))) := hid (fun q hq e => by
    subst e
    simp [prevO, hq, P.standsB])
  have HLZ : Hid (k = 0 → P.standsB (prevO (l.map (·.1)) k) l[k].1 = (decide (l[k].1.level = 0) && decide (l[k].1.kind = 1))) := hid (fun e => by
    subst e; rfl)
  clear HA eA I F hc
  generalize l[k].1 = x at *
  obtain ⟨lv, kd, nm, tx, ats⟩ := x
  dsimp only at *
  obtain ⟨hl1, hl2⟩ := HF.out.1
  dsimp only at hl1 hl2
  go_enter Tryz.func19, Tryz.ntmps19
  obtain ⟨st, HST⟩ : ∃ st, Hid (P.standsB (prevO (l.map (·.1)) k) ⟨lv, kd, nm, tx, ats⟩ = st) := ⟨_, hid rfl⟩
  have HIE : Hid ((if st = false then 69 else if 40 ≤ lv then 42 else if 1000 ≤ k then 43 else P.partsE ⟨lv, kd, nm, tx, ats⟩) = r) := hid (by
    rw [← HR.out]
    unfold P.itemE P.placeE
    rw [HST.out]
    cases st with
    | false => simp
    | true =>
      by_cases h1 : 40 ≤ lv
      · simp [h1]
      · by_cases h2 : 1000 ≤ k
        · simp [h1, h2]
        · simp [h1, h2])
  clear HR
  rcases Nat.eq_zero_or_pos k with hz | hpos
  · have HS := HLZ.out hz
    rw [HST.out] at HS
    subst hz
    clear HLP HLZ HPC hp HST
    simp only [Nat.zero_mul, Nat.add_zero] at c0 c1 c2 c3 c4
    rw [show ((0 : Nat) : Int) = 0 from rfl] at hk' ⊢
    by_cases h0 : lv = 0
    · subst h0
      by_cases h1 : kd = 1
      · subst h1
        obtain rfl : st = true := by rw [HS]; rfl
        have HIE2 : Hid (P.partsE ⟨0, 1, nm, tx, ats⟩ = r) := hid (by rw [← HIE.out]; simp)
        clear HS HIE
        go_wp2
        generalize w.alloc (.cells #[.int .i64 0, .int .i64 1, .string nm, .string tx, .slice aoA ats.length capA] 34) = W1 at *
        obtain ⟨Bk, hBk⟩ : ∃ Bk, Bk = w.heap.size := ⟨_, rfl⟩
        rw [← hBk] at HBK ⊢
        have c00 : W1.cell? ⟨Bk, 0, none⟩ = some (.int .i64 0) := by rw [cell_of_row _ Bk 0 _ _ _ HBK.out]; rfl
        have HBk := hid hBk
        clear hBk
        go_quiet (fail)
        have HB2 := hid (below_drewN HB1.out nq)
        have HK2 : Hid ((W1.drewN nq).heap[Bk]? = some (.cells #[.int .i64 0, .int .i64 1, .string nm, .string tx, .slice aoA ats.length capA] 34 (0, 0))) := hid HBK.out
        have HA2 := hid (HAT.out.below HB2.out)
        clear HB1 HBK HAT
        generalize W1.drewN nq = W2 at *
        have b0 : W2.cell? ⟨Bk, 0, none⟩ = some (.int .i64 0) := by rw [cell_of_row _ Bk 0 _ _ _ HK2.out]; rfl
        have b1 : W2.cell? ⟨Bk, 1, none⟩ = some (.int .i64 1) := by rw [cell_of_row _ Bk 1 _ _ _ HK2.out]; rfl
        have b2 : W2.cell? ⟨Bk, 2, none⟩ = some (.string nm) := by rw [cell_of_row _ Bk 2 _ _ _ HK2.out]; rfl
        have b3 : W2.cell? ⟨Bk, 3, none⟩ = some (.string tx) := by rw [cell_of_row _ Bk 3 _ _ _ HK2.out]; rfl
        have b4 : W2.cell? ⟨Bk, 4, none⟩ = some (.slice aoA ats.length capA) := by rw [cell_of_row _ Bk 4 _ _ _ HK2.out]; rfl
        go_wp2_with fail
        refine (rparts_any ⟨0, 1, nm, tx, ats⟩ (.slice aoA ats.length capA) HA2 HF).mono ?_
        rintro e w3 ⟨rfl, hb3⟩
        have HB3 := hid (HB2.out.trans (hb3.mono HB2.out.size))
        clear hb3
        rw [HIE2.out]
        go_wp2
        go_ret
        exact ⟨rfl, HB3.out⟩
      · obtain rfl : st = false := by rw [HS]; simp [h1]
        obtain rfl : r = 69 := by rw [← HIE.out]; rfl
        have h1' : (kd == 1) = false := beq_eq_false_iff_ne.2 h1
        clear HS h1 HIE HBK
        go_wp2
        go_ret
        exact ⟨rfl, HB1.out⟩
    · obtain rfl : st = false := by rw [HS]; simp [h0]
      obtain rfl : r = 69 := by rw [← HIE.out]; rfl
      have h0' : (lv == 0) = false := beq_eq_false_iff_ne.2 h0
      clear HS h0 HIE HBK
      go_wp2
      go_ret
      exact ⟨rfl, HB1.out⟩
  · obtain ⟨q, rfl⟩ : ∃ q, k = q + 1 := ⟨k - 1, by omega⟩
    have hq : q < l.length := by omega
    obtain ⟨⟨hp1, hp2⟩, hp3⟩ := hp q hq rfl
    obtain ⟨e0, e1⟩ := HPC.out q hq rfl
    have HS := HLP.out q hq rfl
    rw [HST.out] at HS
    have hq' : (q : Int) < (l.length : Int) := by omega
    have hk1 : (((q : Int) + 1) == 0) = false := beq_eq_false_iff_ne.2 (by omega)
    have hk2 : decide ((0 : Int) < (q : Int) + 1) = true := decide_eq_true (by omega)
    clear HLP HLZ HPC hp HST hpos
    generalize l[q].1.level = pl at *
    generalize l[q].1.kind = pk at *
    go_wp2
    generalize w.alloc (.cells #[.int .i64 lv, .int .i64 kd, .string nm, .string tx, .slice aoA ats.length capA] 34) = W1 at *
    obtain ⟨Bk, hBk⟩ : ∃ Bk, Bk = w.heap.size := ⟨_, rfl⟩
    rw [← hBk] at HBK ⊢
    have HBk := hid hBk
    clear hBk
    have c00 : W1.cell? ⟨Bk, 0, none⟩ = some (.int .i64 lv) := by rw [cell_of_row _ Bk 0 _ _ _ HBK.out]; rfl
    have HSN : Hid (st = false ↔ (lv < 1 ∨ pl < lv - 1 ∨ (lv - 1 = pl ∧ pk = 2))) := hid (by
      rw [HS]
      rcases hp3 with rfl | rfl <;> simp <;> omega)
    clear HS
    have c1' := hid c1
    clear c0 c1 c2 c3 c4
    by_cases h1 : lv < 1
    · obtain rfl : st = false := HSN.out.2 (Or.inl h1)
      obtain rfl : r = 69 := by rw [← HIE.out]; rfl
      have g1 : decide (lv < 1) = true := decide_eq_true h1
      clear HSN HIE
      go_quiet (fail)
      have HB2 := hid (below_drewN HB1.out nq)
      clear HB1 HBK
      generalize W1.drewN nq = W2 at *
      go_wp2
      go_ret
      exact ⟨rfl, HB2.out⟩
    · have g1 : decide (lv < 1) = false := decide_eq_false h1
      by_cases h2 : pl < lv - 1
      · obtain rfl : st = false := HSN.out.2 (Or.inr (Or.inl h2))
        obtain rfl : r = 69 := by rw [← HIE.out]; rfl
        have g2 : decide (pl < lv - 1) = true := decide_eq_true h2
        clear HSN HIE
        go_quiet (fail)
        have HB2 := hid (below_drewN HB1.out nq)
        clear HB1 HBK
        generalize W1.drewN nq = W2 at *
        go_wp2
        go_ret
        exact ⟨rfl, HB2.out⟩
      · have g2 : decide (pl < lv - 1) = false := decide_eq_false h2
        by_cases h3 : lv - 1 = pl
        · have g3 : (lv - 1 == pl) = true := beq_iff_eq.2 h3
          have H3 := hid h3
          clear h3
          rcases hp3 with rfl | rfl
          · obtain rfl : st = true := by
              cases st with
              | true => rfl
              | false => have := HSN.out.1 rfl; omega
            clear HSN
            go_quiet (fail)
            have HB2 := hid (below_drewN HB1.out nq)
            have HK2 : Hid ((W1.drewN nq).heap[Bk]? = some (.cells #[.int .i64 lv, .int .i64 kd, .string nm, .string tx, .slice aoA ats.length capA] 34 (0, 0))) := hid HBK.out
            have HA2 := hid (HAT.out.below HB2.out)
            clear HB1 HBK HAT e0 e1 c00
            generalize W1.drewN nq = W2 at *
            have b0 : W2.cell? ⟨Bk, 0, none⟩ = some (.int .i64 lv) := by rw [cell_of_row _ Bk 0 _ _ _ HK2.out]; rfl
            have b1 : W2.cell? ⟨Bk, 1, none⟩ = some (.int .i64 kd) := by rw [cell_of_row _ Bk 1 _ _ _ HK2.out]; rfl
            have b2 : W2.cell? ⟨Bk, 2, none⟩ = some (.string nm) := by rw [cell_of_row _ Bk 2 _ _ _ HK2.out]; rfl
            have b3 : W2.cell? ⟨Bk, 3, none⟩ = some (.string tx) := by rw [cell_of_row _ Bk 3 _ _ _ HK2.out]; rfl
            have b4 : W2.cell? ⟨Bk, 4, none⟩ = some (.slice aoA ats.length capA) := by rw [cell_of_row _ Bk 4 _ _ _ HK2.out]; rfl
            by_cases h40 : 40 ≤ lv
            · obtain rfl : r = 42 := by rw [← HIE.out]; simp [h40]
              clear HIE
              go_wp2
              go_ret
              exact ⟨rfl, HB2.out⟩
            · by_cases h1000 : 1000 ≤ q + 1
              · obtain rfl : r = 43 := by rw [← HIE.out]; simp [h40, h1000]
                have h1000' : (1000 : Int) ≤ (q : Int) + 1 := by omega
                clear HIE
                go_wp2
                go_ret
                exact ⟨rfl, HB2.out⟩
              · have HIE2 : Hid (P.partsE ⟨lv, kd, nm, tx, ats⟩ = r) := hid (by rw [← HIE.out]; simp [h40, h1000])
                have h1000' : ¬ (1000 : Int) ≤ (q : Int) + 1 := by omega
                clear HIE
                go_wp2_with fail
                refine (rparts_any ⟨lv, kd, nm, tx, ats⟩ (.slice aoA ats.length capA) HA2 HF).mono ?_
                rintro e w3 ⟨rfl, hb3⟩
                have HB3 := hid (HB2.out.trans (hb3.mono HB2.out.size))
                clear hb3
                rw [HIE2.out]
                go_wp2
                go_ret
                exact ⟨rfl, HB3.out⟩
          · obtain rfl : st = false := HSN.out.2 (Or.inr (Or.inr ⟨H3.out, rfl⟩))
            obtain rfl : r = 69 := by rw [← HIE.out]; rfl
            clear HSN HIE
            go_quiet (fail)
            have HB2 := hid (below_drewN HB1.out nq)
            clear HB1 HBK
            generalize W1.drewN nq = W2 at *
            go_wp2
            go_ret
            exact ⟨rfl, HB2.out⟩
        · have g3 : (lv - 1 == pl) = false := beq_eq_false_iff_ne.2 h3
          obtain rfl : st = true := by
            cases st with
            | true => rfl
            | false => have := HSN.out.1 rfl; omega
          clear HSN
          go_quiet (fail)
          have HB2 := hid (below_drewN HB1.out nq)
          have HK2 : Hid ((W1.drewN nq).heap[Bk]? = some (.cells #[.int .i64 lv, .int .i64 kd, .string nm, .string tx, .slice aoA ats.length capA] 34 (0, 0))) := hid HBK.out
          have HA2 := hid (HAT.out.below HB2.out)
          clear HB1 HBK HAT e0 e1 c00
          generalize W1.drewN nq = W2 at *
          have b0 : W2.cell? ⟨Bk, 0, none⟩ = some (.int .i64 lv) := by rw [cell_of_row _ Bk 0 _ _ _ HK2.out]; rfl
          have b1 : W2.cell? ⟨Bk, 1, none⟩ = some (.int .i64 kd) := by rw [cell_of_row _ Bk 1 _ _ _ HK2.out]; rfl
          have b2 : W2.cell? ⟨Bk, 2, none⟩ = some (.string nm) := by rw [cell_of_row _ Bk 2 _ _ _ HK2.out]; rfl
          have b3 : W2.cell? ⟨Bk, 3, none⟩ = some (.string tx) := by rw [cell_of_row _ Bk 3 _ _ _ HK2.out]; rfl
          have b4 : W2.cell? ⟨Bk, 4, none⟩ = some (.slice aoA ats.length capA) := by rw [cell_of_row _ Bk 4 _ _ _ HK2.out]; rfl
          by_cases h40 : 40 ≤ lv
          · exfalso; omega
          · by_cases h1000 : 1000 ≤ q + 1
            · obtain rfl : r = 43 := by rw [← HIE.out]; simp [h40, h1000]
              have h1000' : (1000 : Int) ≤ (q : Int) + 1 := by omega
              clear HIE
              go_wp2
              go_ret
              exact ⟨rfl, HB2.out⟩
            · have HIE2 : Hid (P.partsE ⟨lv, kd, nm, tx, ats⟩ = r) := hid (by rw [← HIE.out]; simp [h40, h1000])
              have h1000' : ¬ (1000 : Int) ≤ (q : Int) + 1 := by omega
              clear HIE
              go_wp2_with fail
              refine (rparts_any ⟨lv, kd, nm, tx, ats⟩ (.slice aoA ats.length capA) HA2 HF).mono ?_
              rintro e w3 ⟨rfl, hb3⟩
              have HB3 := hid (HB2.out.trans (hb3.mono HB2.out.size))
              clear hb3
              rw [HIE2.out]
              go_wp2
              go_ret
              exact ⟨rfl, HB3.out⟩
set_option maxRecDepth 100000 in
set_option maxHeartbeats 4000000 in
theorem rcheck_any (I : Hid (ItemsIn V l w)) (F : Hid (∀ x ∈ l, FitU x.1)) (a b : Int) (HR : Hid (P.checkP (l.map (·.1)) = (a, b))) : Calls Tryz.prog 10 #[V] w fun e w' => e = .returned (.tuple #[.int .i64 a, .int .i64 b]) ∧ Below w.heap.size w w' := by
  obtain ⟨ao, cap, rfl, hl, hc⟩ := I.out.1
  clear hc
  go_enter Tryz.func10, Tryz.ntmps10
  by_cases h0 : l = []
  · subst h0
    have h1 := HR.out
    simp only [P.checkP, List.map_nil, if_true, Prod.mk.injEq] at h1
    obtain ⟨rfl, rfl⟩ := h1
    clear HR I F
    simp only [List.length_nil]
    go_wp2
    go_ret2
    exact ⟨rfl, Below.refl _ _⟩
  · have h1 : ((l.length : Int) == 0) = false := beq_eq_false_iff_ne.2 (by have := List.length_pos_iff.2 h0; omega)
    have HR1 : Hid (P.checkF (prevO (l.map (·.1)) 0) 0 ((l.map (·.1)).drop 0) = (a, b)) := hid (by
      have := HR.out
      unfold P.checkP at this
      rwa [if_neg (by simpa using h0)] at this)
    clear HR
    go_wp2
    go_loopw [4] (fun v4 W => ∃ k : Nat, v4 = .int .i64 (k : Int) ∧ k ≤ l.length ∧ Hid (P.checkF (prevO (l.map (·.1)) k) k ((l.map (·.1)).drop k) = (a, b)) ∧ Hid (∀ q (_ : q < l.length), k = q + 1 → (l[q].1.level < 40 ∧ -9223372036854775808 ≤ l[q].1.level) ∧ (l[q].1.kind = 1 ∨ l[q].1.kind = 2)) ∧ Hid (Below w.heap.size w W)) (fun v4 _ => l.length - (intOf v4).toNat)
    case atStart => exact ⟨0, rfl, by omega, HR1, hid (fun q _ h => by omega), hid (Below.refl _ _)⟩
    case round =>
      clear HR1
      obtain ⟨k, rfl, hk, HR, HP, HB⟩ := hrel
      by_cases hlt : k < l.length
      · have hlt' : (k : Int) < (l.length : Int) := by omega
        have HR2 : Hid ((if P.itemE (prevO (l.map (·.1)) k) k l[k].1 ≠ 0 then ((k : Int), P.itemE (prevO (l.map (·.1)) k) k l[k].1) else P.checkF (some l[k].1) (k + 1) ((l.map (·.1)).drop (k + 1))) = (a, b)) := hid (by
          have := HR.out
          rw [List.drop_eq_getElem_cons (by simpa using hlt), P.check_cons] at this
          simpa using this)
        have I1 := hid (I.out.below HB.out)
        have HF := hid (F.out _ (List.getElem_mem hlt))
        clear HR
        go_wp2_with fail
        refine (rplace_any I1 F k hlt HP.out).mono ?_
        rintro e w1 ⟨rfl, hb1⟩
        have HB1 := hid (HB.out.trans (hb1.mono HB.out.size))
        clear hb1 I1
        by_cases hq : P.itemE (prevO (l.map (·.1)) k) k l[k].1 = 0
        · have HR3 : Hid (P.checkF (prevO (l.map (·.1)) (k + 1)) (k + 1) ((l.map (·.1)).drop (k + 1)) = (a, b)) := hid (by
            have := HR2.out
            rw [hq, if_neg (by simp)] at this
            simpa [prevO, hlt] using this)
          have HP2 : Hid (∀ q (_ : q < l.length), k + 1 = q + 1 → (l[q].1.level < 40 ∧ -9223372036854775808 ≤ l[q].1.level) ∧ (l[q].1.kind = 1 ∨ l[q].1.kind = 2)) := hid (fun q hq2 e => by
            obtain rfl : q = k := by omega
            exact ⟨⟨(P.item_ok hq).2.1, HF.out.1.1⟩, P.parts_kind (P.item_ok hq).2.2.2⟩)
          rw [hq]
          clear hq HR2 HF
          go_wp2
          go_roundw
          case rel => exact ⟨k + 1, by go_num, by omega, HR3, HP2, HB1⟩
          case measure => (simp [intOf]; try omega)
        · have h2 := HR2.out
          rw [if_pos hq] at h2
          simp only [Prod.mk.injEq] at h2
          obtain ⟨rfl, h3⟩ := h2
          rw [h3] at hq ⊢
          have hq' : (b == 0) = false := beq_eq_false_iff_ne.2 hq
          clear hq HR2 HF h3
          go_wp2
          go_ret2
          exact ⟨rfl, HB1.out⟩
      · have hlt' : ¬ (k : Int) < (l.length : Int) := by omega
        have h2 := HR.out
        rw [List.drop_eq_nil_of_le (by simp; omega)] at h2
        simp only [P.checkF, Prod.mk.injEq] at h2
        obtain ⟨rfl, rfl⟩ := h2
        clear HR HP
        go_wp2
        go_ret2
        exact ⟨rfl, HB.out⟩
end
end Go.Proofs.YtafjffnijonglaaGreatDoor
namespace Go.Proofs.YtafjffnijonglaaGreatDoor
open Go.ChangeShapes Go.WideShapes Go.ChangeAt Go.RowKit Go.Shelf
/-- What is asked of an item's parts where they come from outside, by a bound. -/
def FitB (B : Nat) (x : P.Itm) : Prop := (-9223372036854775808 ≤ x.level ∧ x.level ≤ 9223372036854775807) ∧ (-9223372036854775808 ≤ x.kind ∧ x.kind ≤ 9223372036854775807) ∧ x.name.size ≤ B ∧ x.text.size ≤ B ∧ ∀ a ∈ x.attrs, a.1.size ≤ B ∧ a.2.size ≤ B
theorem FitB.le {B C : Nat} {x : P.Itm} (h : FitB B x) (hb : B ≤ C) : FitB C x :=
  ⟨h.1, h.2.1, Nat.le_trans h.2.2.1 hb, Nat.le_trans h.2.2.2.1 hb, fun a ha => ⟨Nat.le_trans (h.2.2.2.2 a ha).1 hb, Nat.le_trans (h.2.2.2.2 a ha).2 hb⟩⟩
theorem bulk_in {H : Type} {d : DataW H} {l : List (DataW H)} (h : d ∈ l) : Rows.uptoBulk d ≤ Rows.uptoBulkAll l := by
  induction l with
  | nil => cases h
  | cons y r ih =>
    rw [Rows.uptoBulkAll]
    rcases List.mem_cons.1 h with rfl | e
    · omega
    · have := ih e; omega
theorem bulk_of {H : Type} {len : Nat} {D : Nat → DataW H} {E : List (DataW H)} {i : Nat} (hi : i < len) : Rows.uptoBulk (D i) ≤ Rows.uptoBulk (.slice ((List.range len).map D) E) := by
  have := bulk_in (List.mem_map_of_mem (f := D) (List.mem_range.2 hi))
  rw [Rows.uptoBulk]
  omega
theorem cell_plain {w : World} {a : Addr} {u : Value} (h : w.cell? a = some u) : a = ⟨a.block, a.off, none⟩ ∧ a.block < w.heap.size := by
  unfold World.cell? at h
  split at h
  · rename_i c e f hb
    split at h
    · cases h
    · rename_i hs
      refine ⟨?_, lt_of_block hb⟩
      obtain ⟨b, o, s⟩ := a
      cases s with
      | none => rfl
      | some q => exact absurd rfl hs
  · cases h
theorem add_at {w : World} {a : Addr} {n : Nat} {u : Value} (h0 : a = ⟨a.block, a.off, none⟩) (h : w.cell? (a.add n) = some u) : w.cell? ⟨a.block, a.off + n, none⟩ = some u := by
  rw [h0, Addr.add_lit] at h
  exact h
section
variable {H : Type} {enc : TypeId × Value → H} {W : World}
set_option maxRecDepth 100000 in
theorem open_attrU {n : Nat} {cs : List Value} {y : DataW H × List MemPlace} (h : DataW.trod enc Tryz.prog W 0 (fun _ => true) true n 67 cs = some y) : ∃ a b : ByteArray, cs = [.string a, .string b] ∧ a.size ≤ Rows.uptoBulk y.1 ∧ b.size ≤ Rows.uptoBulk y.1 := by
  obtain ⟨xs, k, _, rfl, hl, hx, hf⟩ := DataW.trod_struct Tryz.underlying67 h
  have c9 : Tryz.prog.cellsOf 9 = 1 := by kernel_rfl
  have c40 : Tryz.prog.cellsOf 67 = 2 := by kernel_rfl
  rw [c40] at hl
  have hx2 : xs.length = 2 := hx
  match xs, hx2, cs, hl with
  | [y0, y1], _, [v0, v1], _ =>
    have g0 : DataW.trod enc Tryz.prog W 0 (fun _ => true) true k 9 (([v0, v1].drop 0).take (Tryz.prog.cellsOf 9)) = some y0 := hf 0 _ rfl
    have g1 : DataW.trod enc Tryz.prog W 0 (fun _ => true) true k 9 (([v0, v1].drop 1).take (Tryz.prog.cellsOf 9)) = some y1 := hf 1 _ rfl
    rw [c9] at g0 g1
    replace g0 : DataW.trod enc Tryz.prog W 0 (fun _ => true) true k 9 [v0] = some y0 := g0
    replace g1 : DataW.trod enc Tryz.prog W 0 (fun _ => true) true k 9 [v1] = some y1 := g1
    obtain ⟨a, e0, rfl, _⟩ := DataW.trod_string Tryz.underlying9 g0
    obtain ⟨b, e1, rfl, _⟩ := DataW.trod_string Tryz.underlying9 g1
    simp only [List.cons.injEq, and_true] at e0 e1
    subst e0 e1
    refine ⟨a, b, rfl, ?_, ?_⟩ <;> (simp only [List.map_cons, List.map_nil, Rows.uptoBulk, Rows.uptoBulkAll, Array.length_toList, ByteArray.size_data]; omega)
set_option maxRecDepth 100000 in
theorem open_attrsU {n : Nat} {v : Value} {y : DataW H × List MemPlace} (h : DataW.trod enc Tryz.prog W 0 (fun _ => true) true n 32 [v] = some y) : ∃ l : List L.Attr, AttrsIn v l W ∧ ∀ a ∈ l, a.1.size ≤ Rows.uptoBulk y.1 ∧ a.2.size ≤ Rows.uptoBulk y.1 := by
  rcases Deep.open_slice Tryz.underlying32 h with ⟨h0, _⟩ | ⟨a, len, cap, m, n', D, Pl, h0, _, hl, hm, hmm, hY, hx⟩
  · simp only [List.cons.injEq, and_true] at h0
    subst h0
    exact ⟨[], ⟨none, 0, rfl, by simp, by simp⟩, by simp⟩
  · simp only [List.cons.injEq, and_true] at h0
    subst h0
    simp only [if_true] at hmm
    have c40 : Tryz.prog.cellsOf 67 = 2 := by kernel_rfl
    have each : ∀ i, i < len → ∃ q : L.Attr, (W.cell? (a.add (i * 2)) = some (.string q.1) ∧ W.cell? (a.add (i * 2 + 1)) = some (.string q.2)) ∧ q.1.size ≤ Rows.uptoBulk y.1 ∧ q.2.size ≤ Rows.uptoBulk y.1 := by
      intro i hi
      obtain ⟨cs', h1, h2⟩ := hx i (by omega)
      rw [c40] at h1
      obtain ⟨_, hlen, hcell⟩ := World.cells?_some h1
      obtain ⟨x1, x2, rfl, s0, s1⟩ := open_attrU h2
      have e0 := hcell 0 (by omega)
      have e1 := hcell 1 (by omega)
      rw [Deep.add_add] at e0 e1
      have hb := bulk_of (E := (List.range (m - len)).map fun j => D (len + j)) (D := D) hi
      rw [hY]
      exact ⟨(x1, x2), ⟨by simpa using e0, by simpa using e1⟩, Nat.le_trans s0 hb, Nat.le_trans s1 hb⟩
    refine ⟨List.ofFn (n := len) fun i => Classical.choose (each i.1 i.2), ⟨some a, cap, by simp, by simp; unfold maxLen at hm; omega, fun hne => ?_⟩, ?_⟩
    · have hpos : 0 < len := by
        rcases Nat.eq_zero_or_pos len with rfl | h
        · simp at hne
        · exact h
      obtain ⟨⟨k0, _⟩, _⟩ := Classical.choose_spec (each 0 hpos)
      have k1 : W.cell? a = some (.string (Classical.choose (each 0 hpos)).1) := by simpa [Addr.add] using k0
      obtain ⟨ea, hlt⟩ := cell_plain k1
      refine ⟨a.block, a.off, by rw [← ea], hlt, fun j hj => ?_⟩
      have hj' : j < len := by simpa using hj
      obtain ⟨⟨q0, q1⟩, _⟩ := Classical.choose_spec (each j hj')
      rw [List.getElem_ofFn]
      exact ⟨add_at ea q0, by rw [Nat.add_assoc]; exact add_at ea q1⟩
    · intro x hx
      obtain ⟨i, rfl⟩ := List.mem_ofFn.1 hx
      exact (Classical.choose_spec (each i.1 i.2)).2
set_option maxRecDepth 100000 in
theorem open_itemU {n : Nat} {cs : List Value} {y : DataW H × List MemPlace} (h : DataW.trod enc Tryz.prog W 0 (fun _ => true) true n 34 cs = some y) :
    ∃ x : IV, cs = [.int .i64 x.1.level, .int .i64 x.1.kind, .string x.1.name, .string x.1.text, x.2] ∧ AttrsIn x.2 x.1.attrs W ∧ FitB (Rows.uptoBulk y.1) x.1 := by
  obtain ⟨xs, k, _, rfl, hl, hx, hf⟩ := DataW.trod_struct Tryz.underlying34 h
  have c3 : Tryz.prog.cellsOf 3 = 1 := by kernel_rfl
  have c9 : Tryz.prog.cellsOf 9 = 1 := by kernel_rfl
  have c25 : Tryz.prog.cellsOf 32 = 1 := by kernel_rfl
  have c49 : Tryz.prog.cellsOf 34 = 5 := by kernel_rfl
  rw [c49] at hl
  have hx2 : xs.length = 5 := hx
  match xs, hx2, cs, hl with
  | [y0, y1, y2, y3, y4], _, [v0, v1, v2, v3, v4], _ =>
    have g0 : DataW.trod enc Tryz.prog W 0 (fun _ => true) true k 3 (([v0, v1, v2, v3, v4].drop 0).take (Tryz.prog.cellsOf 3)) = some y0 := hf 0 _ rfl
    have g1 : DataW.trod enc Tryz.prog W 0 (fun _ => true) true k 3 (([v0, v1, v2, v3, v4].drop 1).take (Tryz.prog.cellsOf 3)) = some y1 := hf 1 _ rfl
    have g2 : DataW.trod enc Tryz.prog W 0 (fun _ => true) true k 9 (([v0, v1, v2, v3, v4].drop 2).take (Tryz.prog.cellsOf 9)) = some y2 := hf 2 _ rfl
    have g3 : DataW.trod enc Tryz.prog W 0 (fun _ => true) true k 9 (([v0, v1, v2, v3, v4].drop 3).take (Tryz.prog.cellsOf 9)) = some y3 := hf 3 _ rfl
    have g4 : DataW.trod enc Tryz.prog W 0 (fun _ => true) true k 32 (([v0, v1, v2, v3, v4].drop 4).take (Tryz.prog.cellsOf 32)) = some y4 := hf 4 _ rfl
    rw [c3] at g0 g1
    rw [c9] at g2 g3
    rw [c25] at g4
    replace g0 : DataW.trod enc Tryz.prog W 0 (fun _ => true) true k 3 [v0] = some y0 := g0
    replace g1 : DataW.trod enc Tryz.prog W 0 (fun _ => true) true k 3 [v1] = some y1 := g1
    replace g2 : DataW.trod enc Tryz.prog W 0 (fun _ => true) true k 9 [v2] = some y2 := g2
    replace g3 : DataW.trod enc Tryz.prog W 0 (fun _ => true) true k 9 [v3] = some y3 := g3
    replace g4 : DataW.trod enc Tryz.prog W 0 (fun _ => true) true k 32 [v4] = some y4 := g4
    obtain ⟨z0, e0, _, s0⟩ := DataW.trod_int Tryz.underlying3 g0
    obtain ⟨z1, e1, _, s1⟩ := DataW.trod_int Tryz.underlying3 g1
    obtain ⟨b2, e2, rfl, _⟩ := DataW.trod_string Tryz.underlying9 g2
    obtain ⟨b3, e3, rfl, _⟩ := DataW.trod_string Tryz.underlying9 g3
    obtain ⟨l, hA, hS⟩ := open_attrsU g4
    simp only [List.cons.injEq, and_true] at e0 e1 e2 e3
    subst e0 e1 e2 e3
    have m0 : IntKind.i64.min = -9223372036854775808 := by decide
    have m1 : IntKind.i64.max = 9223372036854775807 := by decide
    simp only [Lit.wf, Bool.and_eq_true, decide_eq_true_eq, m0, m1] at s0 s1
    have hbig : b2.size ≤ Rows.uptoBulk (DataW.agg (H := H) ([y0, y1, (.lit (.string b2.data.toList), []), (.lit (.string b3.data.toList), []), y4].map (·.1))) ∧ b3.size ≤ Rows.uptoBulk (DataW.agg (H := H) ([y0, y1, (.lit (.string b2.data.toList), []), (.lit (.string b3.data.toList), []), y4].map (·.1))) ∧ Rows.uptoBulk y4.1 ≤ Rows.uptoBulk (DataW.agg (H := H) ([y0, y1, (.lit (.string b2.data.toList), []), (.lit (.string b3.data.toList), []), y4].map (·.1))) := by
      refine ⟨?_, ?_, ?_⟩ <;> (simp only [List.map_cons, List.map_nil, Rows.uptoBulk, Rows.uptoBulkAll, Array.length_toList, ByteArray.size_data]; omega)
    exact ⟨(⟨z0, z1, b2, b3, l⟩, v4), rfl, hA, s0, s1, hbig.1, hbig.2.1, fun a ha => ⟨Nat.le_trans (hS a ha).1 hbig.2.2, Nat.le_trans (hS a ha).2 hbig.2.2⟩⟩
set_option maxRecDepth 100000 in
theorem open_itemsU {base : Nat} {v : Value} {d : DataW H} {ps : List MemPlace} (hval : Value.okWide Tryz.prog W .any base 23 v) (h : DataW.Trod enc Tryz.prog W 0 (fun _ => true) true 23 v d ps) :
    ∃ l : List IV, ItemsIn v l W ∧ ∀ x ∈ l, FitB (Rows.uptoBulk d) x.1 := by
  obtain ⟨ao, len0, cap0, rfl⟩ := okWide_slice Tryz.underlying23 hval
  obtain ⟨fuel, hf⟩ := h
  have hf' : DataW.trod enc Tryz.prog W 0 (fun _ => true) true fuel 23 [.slice ao len0 cap0] = some (d, ps) := by simpa [Value.cells] using hf
  rcases Deep.open_slice Tryz.underlying23 hf' with ⟨h0, _⟩ | ⟨a, len, cap, m, n', D, Pl, h0, _, hl, hm, hmm, hY, hx⟩
  · simp only [List.cons.injEq, and_true] at h0
    rw [h0]
    exact ⟨[], ⟨⟨none, 0, rfl, by simp, by simp⟩, by simp⟩, by simp⟩
  · simp only [List.cons.injEq, and_true] at h0
    rw [h0]
    simp only [if_true] at hmm
    have c49 : Tryz.prog.cellsOf 34 = 5 := by kernel_rfl
    have each : ∀ i, i < len → ∃ q : IV, (W.cell? (a.add (i * 5)) = some (.int .i64 q.1.level) ∧ W.cell? (a.add (i * 5 + 1)) = some (.int .i64 q.1.kind) ∧ W.cell? (a.add (i * 5 + 2)) = some (.string q.1.name) ∧ W.cell? (a.add (i * 5 + 3)) = some (.string q.1.text) ∧ W.cell? (a.add (i * 5 + 4)) = some q.2) ∧ AttrsIn q.2 q.1.attrs W ∧ FitB (Rows.uptoBulk d) q.1 := by
      intro i hi
      obtain ⟨cs', h1, h2⟩ := hx i (by omega)
      rw [c49] at h1
      obtain ⟨_, hlen, hcell⟩ := World.cells?_some h1
      obtain ⟨x, rfl, hA, hF⟩ := open_itemU h2
      have e0 := hcell 0 (by omega)
      have e1 := hcell 1 (by omega)
      have e2 := hcell 2 (by omega)
      have e3 := hcell 3 (by omega)
      have e4 := hcell 4 (by omega)
      rw [Deep.add_add] at e0 e1 e2 e3 e4
      exact ⟨x, ⟨by simpa using e0, by simpa using e1, by simpa using e2, by simpa using e3, by simpa using e4⟩, hA, hF.le (by
        have hb := bulk_of (E := (List.range (m - len)).map fun j => D (len + j)) (D := D) hi
        rw [show d = _ from congrArg Prod.fst hY]
        exact hb)⟩
    refine ⟨List.ofFn (n := len) fun i => Classical.choose (each i.1 i.2), ⟨⟨some a, cap, by simp, by simp; unfold maxLen at hm; omega, fun hne => ?_⟩, ?_⟩, ?_⟩
    · have hpos : 0 < len := by
        rcases Nat.eq_zero_or_pos len with rfl | h
        · simp at hne
        · exact h
      obtain ⟨⟨k0, _⟩, _⟩ := Classical.choose_spec (each 0 hpos)
      have k1 : W.cell? a = some (.int .i64 (Classical.choose (each 0 hpos)).1.level) := by simpa [Addr.add] using k0
      obtain ⟨ea, hlt⟩ := cell_plain k1
      refine ⟨a.block, a.off, by rw [← ea], hlt, fun j hj => ?_⟩
      have hj' : j < len := by simpa using hj
      obtain ⟨⟨q0, q1, q2, q3, q4⟩, _⟩ := Classical.choose_spec (each j hj')
      rw [List.getElem_ofFn]
      exact ⟨add_at ea q0, by rw [Nat.add_assoc]; exact add_at ea q1, by rw [Nat.add_assoc]; exact add_at ea q2, by rw [Nat.add_assoc]; exact add_at ea q3, by rw [Nat.add_assoc]; exact add_at ea q4⟩
    · intro x hx
      obtain ⟨i, rfl⟩ := List.mem_ofFn.1 hx
      exact (Classical.choose_spec (each i.1 i.2)).2.1
    · intro x hx
      obtain ⟨i, rfl⟩ := List.mem_ofFn.1 hx
      exact (Classical.choose_spec (each i.1 i.2)).2.2
theorem laidOutU : laidOutB Tryz.prog = true := by kernel_rfl
/-- An argument that reads as something reads so again. -/
theorem again_items {t : TypeId} (hr : Tryz.prog.readableRec t = true) (ht : t < Tryz.prog.types.size) {v : Value} {d : DataW H} {ps : List MemPlace} (h : DataW.Trod enc Tryz.prog W 0 (fun _ => true) true t v d ps) (hlt : ∀ p ∈ ps, p.block < W.heap.size) {W' : World} (hb : Below W.heap.size W W') :
    DataW.Trod enc Tryz.prog W' 0 (fun b => decide (b < W.heap.size)) true t v d ps :=
  WideElems.Trod_stays laidOutU hr ht h (fun p hp => hb.same (hlt p hp)) (fun p hp => by simpa using hlt p hp)
theorem trod_lt {t : TypeId} {v : Value} {d : DataW H} {ps : List MemPlace} (h : DataW.Trod enc Tryz.prog W 0 (fun _ => true) true t v d ps) : ∀ p ∈ ps, p.block < W.heap.size :=
  DataW.TrodAll.lt (trodAll_mk1 h)
end
end Go.Proofs.YtafjffnijonglaaGreatDoor
namespace Go.Proofs.YtafjffnijonglaaGreatDoor
open Go.ChangeShapes Go.WideShapes Go.ChangeAt Go.RowKit Go.Shelf
namespace ParseChecks
set_option maxRecDepth 100000 in
set_option maxHeartbeats 4000000 in
theorem walk (V : Value) (l : List IV) {w : World} (I : Hid (ItemsIn V l w)) (F : Hid (∀ x ∈ l, FitU x.1)) (ht : Tab w) :
    Calls Tryz.prog 4 #[V] w fun e w' => e = .returned (.bool true) ∧ Below w.heap.size w w' := by
  have HT := hid ht
  clear ht
  obtain ⟨ao, cap, rfl, hl, hc⟩ := I.out.1
  clear hc
  obtain ⟨a, b, HR⟩ : ∃ a b, Hid (P.checkP (l.map (·.1)) = (a, b)) := ⟨_, _, hid rfl⟩
  go_enter Tryz.func4, Tryz.ntmps4
  go_wp2_with fail
  refine (check_any I (hid (fun x hx => (F.out x hx).fit)) HT.out a b HR).mono ?_
  rintro e w1 ⟨rfl, hb1⟩
  have HB1 := hid hb1
  have I1 := hid (I.out.below hb1)
  have HT1 := hid (HT.out.below hb1)
  clear hb1
  go_wp2_with fail
  refine (rcheck_any I1 F a b HR).mono ?_
  rintro e w2 ⟨rfl, hb2⟩
  have HB2 := hid (HB1.out.trans (hb2.mono HB1.out.size))
  have HT2 := hid (HT1.out.below hb2)
  clear hb2
  go_wp2_with fail
  refine (aliveP_any w2 HT2.out).mono ?_
  rintro e w3 ⟨rfl, hb3⟩
  have HB3 := hid (HB2.out.trans (hb3.mono HB2.out.size))
  clear hb3
  go_wp2
  go_ret
  exact ⟨rfl, HB3.out⟩

set_option maxRecDepth 100000 in
theorem contract (H : Type) (enc : TypeId × Value → H) (W : World) (base : Nat) (args : Array Value) (ds gs : List (DataW H)) (before : List MemPlace)
    (hval : ∀ (j : Nat) t v, Tryz.f4.params[j]? = some t → args[j]? = some v → Value.okWide Tryz.prog W .any base t v)
    (hW : DataW.Whole enc Tryz.prog Tryz.f4.params.toList Rows.parseChecksSpec.vars false W args.toList ds gs before) (hL : laidMetH Tryz.prog laidT W)
    (hk : Rows.uptoSmall H (ds ++ gs) = true) :
    Calls Tryz.prog 4 args W fun e W' => ∃ v, e = .returned v ∧ Rows.parseChecksSpec.post enc Tryz.prog Tryz.f4 false true false false W args v W' := by
  have hW' := hW
  obtain ⟨p, q, hA0, hV, rfl, hfz, hnd⟩ := hW
  have hA : DataW.TrodAll enc Tryz.prog W 0 (fun _ => true) true Tryz.f4.params.toList args.toList ds p := hA0
  rw [Tryz.params4] at hA hval
  obtain ⟨v0, vs0, d0, ds0, p0, q0, hargs, rfl, rfl, h0, r0⟩ := trodAll_cons hA
  obtain ⟨rfl, rfl, rfl⟩ := trodAll_nil r0
  obtain rfl : args = #[v0] := by cases args; simp_all
  obtain ⟨rfl, rfl⟩ := trodVars_none hV
  obtain ⟨l0, i0, f0⟩ := open_itemsU (hval 0 23 v0 rfl rfl) h0
  have hk1 : Rows.uptoBulkAll _ ≤ 1048576 := of_decide_eq_true hk
  simp only [List.append_nil, Rows.uptoBulkAll] at hk1
  replace f0 : ∀ x ∈ l0, FitU x.1 := fun x hx => (f0 x hx).le (by omega)
  have hT := tab_of hL
  clear hA0 hL hk hk1
  try simp only [List.append_nil] at hW'
  refine (walk v0 l0 (hid i0) (hid f0) hT).mono fun e W' ⟨he, hb⟩ => ?_
  subst he
  exact ⟨_, rfl, _, _, _, _, _, _, hW', trodAll_mk1 (shut_bool Tryz.underlying4 _), (trodAll_cons_mk (again_items (by kernel_rfl) (of_decide_eq_true (by kernel_rfl)) h0 (fun x hx => trod_lt h0 x hx) hb) trodAll_mk0), rfl, hb.frame _, fun h => by cases h⟩

theorem reads (os : Os) {H : Type} (enc : TypeId × Value → H) : ∃ places, DataW.whole enc Tryz.prog ((World.doorLaid Tryz.prog 400 os).forCall (fun _ _ => 0) ⟨#[], #[.slice none 0 0], []⟩).memory Tryz.f4.params.toList Rows.parseChecksSpec.vars false #[Value.slice none 0 0].toList 8 = some ([.nil], [], places) :=
  ⟨[], by kernel_rfl⟩
theorem laid_met (os : Os) (args : Array Value) : laidMet Tryz.prog Rows.parseChecksUptoRow.laid ((World.doorLaid Tryz.prog 400 os).forCall (fun _ _ => 0) ⟨#[], args, []⟩).memory :=
  laidMet_of_run' 8 (by kernel_rfl) (by kernel_rfl)

set_option maxRecDepth 100000 in
theorem lifted (os : Os) (started : os.Started) (H : Type) (enc : TypeId × Value → H) (F : Stop.Interp) :
    ReturnsInHanded {} Tryz.checked os 4 .any ((Rows.OpenSpec.upto Rows.parseChecksSpec).preRow enc Tryz.prog Tryz.f4 Rows.parseChecksUptoRow.domain false Rows.parseChecksUptoRow.laid) (((Rows.OpenSpec.upto Rows.parseChecksSpec).at F).post enc Tryz.prog Tryz.f4 false true false false) := by
  obtain ⟨places, hx⟩ := reads os enc
  refine returnsInHanded_of_row (C := Tryz.checked) (s := (Rows.OpenSpec.upto Rows.parseChecksSpec)) own started (by kernel_rfl) Tryz.func4
    (witness_row_at (enc := enc) (C := Tryz.checked) false (World.doorLaid Tryz.prog 400 os) #[.slice none 0 0] rfl (by kernel_rfl) (by kernel_rfl) (by kernel_rfl)
      (OpenSpec.preRow_of_cond 8 hx (by kernel_rfl) (fun k hk => by cases hk; kernel_rfl) (by kernel_rfl) (laid_met os _))) ?_
  intro W base args ds gs before hval hW _ hcond hsz hL _ _
  exact contract H enc W base args ds gs before hval hW hL (hcond _ rfl)

theorem over : Rows.ParseChecksUptoSaid :=
  OpenClaim.holds_of_cond 4 Tryz.f4 rfl rfl rfl rfl rfl rfl rfl ⟨rfl, rfl, rfl, rfl, rfl⟩ rfl rfl rfl rfl rfl (by kernel_rfl) Tryz.func4 (by kernel_rfl)
    (of_decide_eq_true (by kernel_rfl)) (by unfold Func.isWrapper; first | (rw [if_pos (by decide +kernel)]; kernel_rfl) | (rw [if_neg (by decide +kernel)]; exact ⟨rfl, rfl⟩))
    (fun os started H enc _ F => by rw [OpenClaim.pre_eq_preRow]; exact lifted os started H enc F)
theorem plain (f : FuncId) (fn : Func) (hf : Tryz.pinned.checked.prog.funcNamed Rows.parseChecksUptoRow.func = some f) (hfn : Tryz.pinned.checked.prog.funcs[f]? = some fn) :
    false = Tryz.pinned.checked.prog.looks [] ∧ ∀ (j : Nat) t, fn.params[j]? = some t → Tryz.pinned.checked.prog.wantsStandIn t = false := by
  obtain rfl : f = 4 := Option.some.inj ((show Tryz.prog.funcNamed Rows.parseChecksUptoRow.func = some 4 by kernel_rfl).symm.trans hf) |>.symm
  obtain rfl : fn = Tryz.f4 := (Option.some.inj (Tryz.func4.symm.trans hfn)).symm
  refine ⟨by kernel_rfl, fun j t ht => ?_⟩
  rw [Tryz.params4] at ht
  have hm : t ∈ [23] := by simpa using Array.mem_of_getElem? ht
  have hall : ([23].all fun u => !Tryz.prog.wantsStandIn u) = true := by kernel_rfl
  exact (show Tryz.prog.wantsStandIn t = false by simpa using List.all_eq_true.1 hall t hm)
end ParseChecks

theorem parseChecksUpto_holds : Rows.ParseChecksUptoCardSaid :=
  Claim7.holds_tied_plain_at .later [] _ _ _ _ ParseChecks.over (fun _ h => by cases h) (by kernel_rfl) (fun _ h => by cases h) parseChecksUpto_row_tie rfl ⟨rfl, rfl⟩ (by kernel_rfl) rfl ParseChecks.plain (by kernel_rfl)
#print axioms parseChecksUpto_holds
end Go.Proofs.YtafjffnijonglaaGreatDoor
