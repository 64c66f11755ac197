/- The walks of the document's own All, Count and Name over texts that are not too long: the characters of a text, in a row of the call's own; how many; whether it is a name. -/
import Derived.Test.YtpkcgahgjdghaaaDoorGRNext
namespace Go.Proofs.YtpkcgahgjdghaaaDoor
open Go.RowKit
theorem info_i32 : (Tryd.prog.info? 21).map (fun i => (i.zero, i.size, i.bytes)) = some (some (.int .i32 0), 1, 4) := by kernel_rfl

theorem own_below {w w' : World} {B e size n : Nat} {v : Value} {xs : List Value} (h : w.ownsRow B e size v n xs) (hb : Below w.heap.size w w') : w'.ownsRow B e size v n xs :=
  h.kept (row := none) ⟨hb.os, hb.tape, hb.output, hb.size, fun k hk _ => hb.block k hk⟩ (by by_cases q : v.ownBlock = none <;> simp [q])

set_option maxRecDepth 100000 in
set_option maxHeartbeats 400000 in
theorem all_any (s : ByteArray) (o : Option (List Int)) (w : World) (hm : s.size ≤ 1048576) (HO : Hid (G.chars s.data.toList = o)) :
    Calls Tryd.prog 31 #[.string s] w fun e w' => ∃ v, e = .returned (.tuple #[v, .bool o.isSome]) ∧ w'.ownsRow w.heap.size 21 1 v (o.getD []).length ((o.getD []).map (Value.int .i32)) ∧ Below w.heap.size w w' := by
  obtain ⟨i0, hi, hz0, hz1, hz2⟩ := info_parts info_i32
  go_enter Tryd.func31, Tryd.ntmps31
  go_wp2
  go_loopw [0, 4] (fun v u W => ∃ (r : ByteArray) (pre : List Int), v = .string r ∧ W.ownsRow w.heap.size 21 1 u pre.length (pre.map (Value.int .i32)) ∧ pre.length + r.size ≤ s.size ∧ Hid (G.chars s.data.toList = (G.chars r.data.toList).map (pre ++ ·)) ∧ Below w.heap.size w W) (fun v _ _ => match v with | .string r => r.size | _ => 0)
  case atStart => exact ⟨s, [], rfl, World.ownsRow_nil _ _ _ _, by simp, by show _ = _; simp, Below.refl _ _⟩
  case round =>
    obtain ⟨r, pre, rfl, hown, hk, HR, hb⟩ := hrel
    by_cases h : 0 < r.size
    · have hne : r.toList.isEmpty = false := ne_of_pos r h
      have HL : Hid (r.data.toList ≠ []) := list_of_pos r h
      obtain ⟨⟨c, n⟩, HN⟩ : ∃ p, Hid (G.nextL r.data.toList = p) := ⟨_, rfl⟩
      have hn : n ≤ r.size := by have := G.next_le r.data.toList; rw [HN.out] at this; simpa using this
      by_cases n0 : n = 0
      · subst n0
        have E : Hid (o = none) := by
          show _ = _
          rw [← HO.out, HR.out, G.chars_none _ HL.out (by rw [HN.out])]
          rfl
        go_wp2_with fail
        refine (rnext_any _ c 0 _ (by unfold maxLen; omega) HN).mono ?_
        rintro e w1 ⟨rfl, hb1⟩
        go_wp2
        go_ret2
        obtain rfl := E.out
        exact ⟨_, rfl, World.ownsRow_nil _ _ _ _, hb.trans (hb1.mono hb.size)⟩
      · have b0 : ((n : Int) == 0) = false := by simp; exact n0
        go_wp2_with fail
        refine (rnext_any _ c n _ (by unfold maxLen; omega) HN).mono ?_
        rintro e w1 ⟨rfl, hb1⟩
        have hb2 : Below w.heap.size w w1 := hb.trans (hb1.mono hb.size)
        have hown1 : w1.ownsRow w.heap.size 21 1 u4 pre.length (pre.map (Value.int .i32)) := own_below hown hb1
        have hs := hb2.size
        clear hb hb1 hown
        go_wp2_with (first
        | (at_builtin; refine wpList_append_own _ rfl _ _ 51 rfl w.heap.size 21 i0 (.int .i32 0) 1 4 Tryd.underlying51 hi hz0 hz1 hz2 rfl (by decide) _ _ _ rfl (hown1.alloc _) ⟨w1.heap.size, 0, none⟩ 1 1 [.int .i32 c] rfl rfl ?c1 ?c2 ?c3 ?c4 ?c5 ?_)
        | go_in)
        case c1 =>
          intro j u hj
          match j, hj with
          | 0, hj => simp at hj; subst hj; simp [Addr.add]
        case c2 => intro u hu; simp at hu; subst hu; rfl
        case c3 => unfold maxLen; omega
        case c4 => omega
        case c5 => simp; omega
        intro v' w2 hown' hgrow _
        have R1 : Hid (w2.ownsRow w.heap.size 21 1 v' (pre ++ [c]).length ((pre ++ [c]).map (Value.int .i32))) := by
          show w2.ownsRow _ _ _ _ _ _; simpa using hown'
        have R2 : Below w.heap.size w w2 := (hb2.alloc hs _).grown hgrow (by simp; omega) (fun q hq => (hown1.lt q hq).1)
        clear hown' hgrow hown1 hb2
        go_wp2
        go_roundw
        case rel =>
          refine ⟨r.extract n r.size, pre ++ [c], rfl, R1.out, by rw [size_drop]; simp; omega, ?_, R2⟩
          show _ = _
          rw [HR.out, G.chars_cons _ HL.out (by rw [HN.out]; exact n0), HN.out, drop_eq]
          cases G.chars (r.data.toList.drop n) <;> simp
        case measure => simp; omega
    · have hz : r.size = 0 := by omega
      have hne : r.toList.isEmpty = true := emp_of r h
      have E : Hid (o = some pre) := by
        show _ = _
        rw [← HO.out, HR.out, nil_of r h, G.chars_nil]
        simp
      go_wp2
      go_ret2
      obtain rfl := E.out
      exact ⟨_, rfl, hown, hb⟩



end Go.Proofs.YtpkcgahgjdghaaaDoor
