/- The walks of escape.escaped, Text and Value: a text is written as the plain function says, in a builder of the call's own; nothing that was there is written. -/
import Derived.Test.YtmgemdhpjibdiaaDoorEUndone
import Derived.Lib.OthersKept
namespace Go.Proofs.YtmgemdhpjibdiaaDoor
open Go.RowKit
theorem lt_of_block {w : World} {k : Nat} {o : Obj} (h : w.heap[k]? = some o) : k < w.heap.size := by
  rcases Nat.lt_or_ge k w.heap.size with q | q
  · exact q
  · simp [Array.getElem?_eq_none q] at h
theorem bldAt_below {T e : TypeId} {B b : Nat} {p : Value} {bs : List Value} {w w' : World} (h : Lib.BuilderAtF T e B b p bs w) (hb : Below w.heap.size w w') : Lib.BuilderAtF T e B b p bs w' := by
  obtain ⟨hB, v, hbk, ⟨hl, hown⟩, hne⟩ := h
  refine ⟨hB, v, (hb.block b (lt_of_block hbk)).trans hbk, ⟨hl, ?_⟩, hne⟩
  rcases hown with q | ⟨g, cap, cur, fz, hv, hg, hh, rest⟩
  · exact .inl q
  · exact .inr ⟨g, cap, cur, fz, hv, hg, (hb.block g (lt_of_block hh)).trans hh, rest⟩
theorem bld_below {T e : TypeId} {B b : Nat} {bs : List Value} {w w' : World} (h : Lib.IsBuilderF T e B b bs w) (hb : Below w.heap.size w w') : Lib.IsBuilderF T e B b bs w' :=
  h.elim (fun x => .inl (bldAt_below x hb)) (fun x => .inr (bldAt_below x hb))
theorem ret_sb' {s t : ByteArray} {a b : Bool} (h : s = t) (k : a = b) : Ending.returned (.tuple #[.string s, .bool a]) = .returned (.tuple #[.string t, .bool b]) := by rw [h, k]

set_option maxRecDepth 100000 in
set_option maxHeartbeats 400000 in
theorem escaped_any (s : ByteArray) (v : Bool) (r : ByteArray) (b : Bool) (w : World) (ht : Tab w) (hm : s.size ≤ 20000000) (H : Hid ((E.escL v s.data.toList).getD [] = r.data.toList ∧ (E.escL v s.data.toList).isSome = b)) :
    Calls Tryd.prog 139 #[.string s, .bool v] w fun e w' => e = .returned (.tuple #[.string r, .bool b]) ∧ Below w.heap.size w w' := by
  have Ht : Hid (Tab w) := ht
  clear ht
  go_enter Tryd.func139, Tryd.ntmps139
  go_wp2
  go_loopw [0] (fun v0 W => ∃ (q : ByteArray) (pre : List Int) (acc : List UInt8), v0 = .string q ∧ Lib.IsBuilderF 114 5 w.heap.size w.heap.size (Lib.byteCells acc) W ∧ acc.length + 6 * q.size ≤ 6 * s.size ∧ Hid (acc = pre.flatMap (E.escC v) ∧ G.chars s.data.toList = (G.chars q.data.toList).map (pre ++ ·)) ∧ Below w.heap.size w W) (fun v0 _ => match v0 with | .string q => q.size | _ => 0)
  case atStart => exact ⟨s, [], [], rfl, Lib.IsBuilderF.of (Lib.fresh_isBuilder _ _ w), by simp, ⟨rfl, by simp⟩, (Below.refl _ _).alloc (Nat.le_refl _) _⟩
  case round =>
    obtain ⟨q, pre, acc, rfl, hI, hl, HR, hb⟩ := hrel
    have hs := hb.size
    by_cases h : 0 < q.size
    · have hne : q.toList.isEmpty = false := ne_of_pos q h
      have HL : Hid (q.data.toList ≠ []) := list_of_pos q h
      obtain ⟨⟨c, n⟩, HN⟩ : ∃ p, Hid (G.nextL q.data.toList = p) := ⟨_, rfl⟩
      have hn : n ≤ q.size := by have := G.next_le q.data.toList; rw [HN.out] at this; simpa using this
      have HQ : Hid (q.size ≤ maxLen) := by show _ ≤ _; unfold maxLen; omega
      by_cases n0 : n = 0
      · subst n0
        have EN : Hid (E.escL v s.data.toList = none) := by
          show _ = _
          unfold E.escL
          rw [HR.out.2, G.chars_none _ HL.out (by rw [HN.out])]
          rfl
        have E1 : Hid (⟨#[]⟩ = r) := WideShapes.bytes_inj (by rw [← H.out.1, EN.out]; rfl)
        have E2 : Hid (false = b) := by show _ = _; rw [← H.out.2, EN.out]; rfl
        go_wp2_with fail
        refine (next_any _ c 0 _ (Ht.out.below hb) HQ.out HN).mono ?_
        rintro e w1 ⟨rfl, hb1⟩
        go_wp2
        go_ret2
        exact ⟨ret_sb' E1.out E2.out, hb.trans (hb1.mono hs)⟩
      · have b0 : ((n : Int) == 0) = false := by simp; exact n0
        obtain ⟨t, HI⟩ : ∃ t, Hid ((⟨(E.insteadL c v).toArray⟩ : ByteArray) = t) := ⟨_, rfl⟩
        have PL : Hid (G.putL c = q.data.toList.take n) := (G.next_putL _ c n HN.out n0).2
        have el := E.esc_len v c
        have EL : Hid ((E.escC v c).length ≤ 6) := el
        clear el
        go_wp2_with fail
        refine (next_any _ c n _ (Ht.out.below hb) HQ.out HN).mono ?_
        rintro e w1 ⟨rfl, hb1⟩
        have hI1 := bld_below hI hb1
        have hb2 : Below w.heap.size w w1 := hb.trans (hb1.mono hs)
        have hs2 := hb2.size
        clear hI hb hb1 hs
        go_wp2_with fail
        refine (instead_any _ v t _ HI).mono ?_
        rintro e w2 ⟨rfl, rfl⟩
        have step : ∀ (x : List UInt8), x = E.escC v c → Hid (acc ++ x = (pre ++ [c]).flatMap (E.escC v) ∧ G.chars s.data.toList = (G.chars (q.extract n q.size).data.toList).map (pre ++ [c] ++ ·)) := by
          intro x hx
          refine ⟨by rw [hx, HR.out.1]; simp, ?_⟩
          rw [HR.out.2, G.chars_cons _ HL.out (by rw [HN.out]; exact n0), HN.out, drop_eq]
          cases G.chars (q.data.toList.drop n) <;> simp
        have ST := hid step
        clear step
        by_cases i0 : E.insteadL c v = []
        · have t0 : t = ⟨#[]⟩ := by rw [← HI.out, i0]
          subst t0
          have ES : Hid ((q.extract 0 n).data.toList = E.escC v c) := by show _ = _; rw [E.esc_self i0, take_eq', PL.out]
          clear i0
          go_wp2_with fail
          refine (writes_any w.heap.size w.heap.size _ _ _ hI1 (by rw [Lib.byteCells_length, ByteArray.size_extract]; omega) hs2).mono ?_
          rintro e w3 ⟨rfl, h3, b3, _⟩
          go_wp2
          go_roundw
          case rel =>
            refine ⟨q.extract n q.size, pre ++ [c], acc ++ (q.extract 0 n).data.toList, rfl, ?_, ?_, ST.out _ ES.out, hb2.trans b3⟩
            · rw [Lib.byteCells_append]; exact Or.inr h3
            · have := EL.out
              rw [List.length_append, ES.out, size_drop]
              omega
          case measure => simp; omega
        · have t0 : t.toList.isEmpty = false := by
            rw [← HI.out, ByteArray.toList_eq]
            simpa using i0
          have ES : Hid (t.data.toList = E.escC v c) := by show _ = _; rw [E.esc_other i0, ← HI.out]
          have ts : t.size ≤ 6 := by
            have := EL.out
            rw [← ES.out] at this
            simpa using this
          clear i0
          go_wp2_with fail
          refine (writes_any w.heap.size w.heap.size _ _ _ hI1 (by rw [Lib.byteCells_length]; omega) hs2).mono ?_
          rintro e w3 ⟨rfl, h3, b3, _⟩
          go_wp2
          go_roundw
          case rel =>
            refine ⟨q.extract n q.size, pre ++ [c], acc ++ t.data.toList, rfl, ?_, ?_, ST.out _ ES.out, hb2.trans b3⟩
            · rw [Lib.byteCells_append]; exact Or.inr h3
            · have := EL.out
              rw [List.length_append, ES.out, size_drop]
              omega
          case measure => simp; omega
    · have hz : q.size = 0 := by omega
      have hne : q.toList.isEmpty = true := emp_of q h
      have EN : Hid (E.escL v s.data.toList = some acc) := by
        show _ = _
        unfold E.escL
        rw [HR.out.2, nil_of q h, G.chars_nil, HR.out.1]
        simp
      have E1 : Hid (⟨acc.toArray⟩ = r) := WideShapes.bytes_inj (by rw [← H.out.1, EN.out]; rfl)
      have E2 : Hid (true = b) := by show _ = _; rw [← H.out.2, EN.out]; rfl
      go_wp2_with fail
      refine (string_any w.heap.size w.heap.size acc _ hI hs).mono ?_
      rintro e w1 ⟨rfl, _, b1, _⟩
      rw [E1.out]
      go_wp2
      go_ret2
      exact ⟨ret_sb' rfl E2.out, hb.trans b1⟩

set_option maxHeartbeats 400000 in
theorem value_any (s : ByteArray) (r : ByteArray) (b : Bool) (w : World) (ht : Tab w) (hm : s.size ≤ 20000000) (H : Hid ((E.escL true s.data.toList).getD [] = r.data.toList ∧ (E.escL true s.data.toList).isSome = b)) :
    Calls Tryd.prog 127 #[.string s] w fun e w' => e = .returned (.tuple #[.string r, .bool b]) ∧ Below w.heap.size w w' := by
  have Ht : Hid (Tab w) := ht
  clear ht
  have HM := hid hm
  clear hm
  go_enter Tryd.func127, Tryd.ntmps127
  go_wp2_with fail
  refine (escaped_any _ true r b _ Ht.out HM.out H).mono ?_
  rintro e w1 ⟨rfl, hb⟩
  go_wp2
  go_ret2
  exact ⟨rfl, hb⟩
end Go.Proofs.YtmgemdhpjibdiaaDoor
