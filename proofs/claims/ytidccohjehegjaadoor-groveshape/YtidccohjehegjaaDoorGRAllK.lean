/- The walks of the document's own All, Count and Name over texts that are not too long: the characters of a text, in a row of the call's own; how many; whether it is a name. -/
import Derived.Test.YtidccohjehegjaaDoorGRNextK
import Derived.Test.YtidccohjehegjaaDoorGRKindsK
namespace Go.Proofs.YtidccohjehegjaaDoor
open Go.RowKit
theorem info_i32 : (Tryd.prog.info? 21).map (fun i => (i.zero, i.size, i.bytes)) = some (some (.int .i32 0), 1, 4) := by kernel_rfl

theorem own_below {w w' : World} {B e size n : Nat} {v : Value} {xs : List Value} (h : w.ownsRow B e size v n xs) (hb : Below w.heap.size w w') : w'.ownsRow B e size v n xs :=
  h.kept (row := none) ⟨hb.os, hb.tape, hb.output, hb.size, fun k hk _ => hb.block k hk⟩ (by by_cases q : v.ownBlock = none <;> simp [q])

set_option maxRecDepth 100000 in
set_option maxHeartbeats 400000 in
theorem all_any (s : ByteArray) (o : Option (List Int)) (w : World) (hm : s.size ≤ 1048576) (HO : Hid (G.chars s.data.toList = o)) :
    Calls Tryd.prog 81 #[.string s] w fun e w' => ∃ v, e = .returned (.tuple #[v, .bool o.isSome]) ∧ w'.ownsRow w.heap.size 21 1 v (o.getD []).length ((o.getD []).map (Value.int .i32)) ∧ Below w.heap.size w w' := by
  obtain ⟨i0, hi, hz0, hz1, hz2⟩ := info_parts info_i32
  go_enter Tryd.func81, Tryd.ntmps81
  go_wp2
  go_loopw [0, 4] (fun v u W => ∃ (r : ByteArray) (pre : List Int), v = .string r ∧ W.ownsRow w.heap.size 21 1 u pre.length (pre.map (Value.int .i32)) ∧ pre.length + r.size ≤ s.size ∧ Hid (G.chars s.data.toList = (G.chars r.data.toList).map (pre ++ ·)) ∧ Below w.heap.size w W) (fun v _ _ => match v with | .string r => r.size | _ => 0)
  case atStart => exact ⟨s, [], rfl, World.ownsRow_nil _ _ _ _, by simp, by show _ = _; simp, Below.refl _ _⟩
  case round =>
    obtain ⟨r, pre, rfl, hown, hk, HR, hb⟩ := hrel
    by_cases h : 0 < r.size
    · have hne : r.toList.isEmpty = false := ne_of_pos r h
      have HL : Hid (r.data.toList ≠ []) := list_of_pos r h
      obtain ⟨⟨c, n⟩, HN⟩ : ∃ p, Hid (G.nextL r.data.toList = p) := ⟨_, rfl⟩
      have hn : n ≤ r.size := by have := G.next_le r.data.toList; rw [HN.out] at this; simpa using this
      by_cases n0 : n = 0
      · subst n0
        have E : Hid (o = none) := by
          show _ = _
          rw [← HO.out, HR.out, G.chars_none _ HL.out (by rw [HN.out])]
          rfl
        go_wp2_with fail
        refine (rnext_any _ c 0 _ (by unfold maxLen; omega) HN).mono ?_
        rintro e w1 ⟨rfl, hb1⟩
        go_wp2
        go_ret2
        obtain rfl := E.out
        exact ⟨_, rfl, World.ownsRow_nil _ _ _ _, hb.trans (hb1.mono hb.size)⟩
      · have b0 : ((n : Int) == 0) = false := by simp; exact n0
        go_wp2_with fail
        refine (rnext_any _ c n _ (by unfold maxLen; omega) HN).mono ?_
        rintro e w1 ⟨rfl, hb1⟩
        have hb2 : Below w.heap.size w w1 := hb.trans (hb1.mono hb.size)
        have hown1 : w1.ownsRow w.heap.size 21 1 u4 pre.length (pre.map (Value.int .i32)) := own_below hown hb1
        have hs := hb2.size
        clear hb hb1 hown
        go_wp2_with (first
        | (at_builtin; refine wpList_append_own _ rfl _ _ 108 rfl w.heap.size 21 i0 (.int .i32 0) 1 4 Tryd.underlying108 hi hz0 hz1 hz2 rfl (by decide) _ _ _ rfl (hown1.alloc _) ⟨w1.heap.size, 0, none⟩ 1 1 [.int .i32 c] rfl rfl ?c1 ?c2 ?c3 ?c4 ?c5 ?_)
        | go_in)
        case c1 =>
          intro j u hj
          match j, hj with
          | 0, hj => simp at hj; subst hj; simp [Addr.add]
        case c2 => intro u hu; simp at hu; subst hu; rfl
        case c3 => unfold maxLen; omega
        case c4 => omega
        case c5 => simp; omega
        intro v' w2 hown' hgrow _
        have R1 : Hid (w2.ownsRow w.heap.size 21 1 v' (pre ++ [c]).length ((pre ++ [c]).map (Value.int .i32))) := by
          show w2.ownsRow _ _ _ _ _ _; simpa using hown'
        have R2 : Below w.heap.size w w2 := (hb2.alloc hs _).grown hgrow (by simp; omega) (fun q hq => (hown1.lt q hq).1)
        clear hown' hgrow hown1 hb2
        go_wp2
        go_roundw
        case rel =>
          refine ⟨r.extract n r.size, pre ++ [c], rfl, R1.out, by rw [size_drop]; simp; omega, ?_, R2⟩
          show _ = _
          rw [HR.out, G.chars_cons _ HL.out (by rw [HN.out]; exact n0), HN.out, drop_eq]
          cases G.chars (r.data.toList.drop n) <;> simp
        case measure => simp; omega
    · have hz : r.size = 0 := by omega
      have hne : r.toList.isEmpty = true := emp_of r h
      have E : Hid (o = some pre) := by
        show _ = _
        rw [← HO.out, HR.out, nil_of r h, G.chars_nil]
        simp
      go_wp2
      go_ret2
      obtain rfl := E.out
      exact ⟨_, rfl, hown, hb⟩

set_option maxRecDepth 100000 in
set_option maxHeartbeats 400000 in
theorem rcount_any (s : ByteArray) (z : Int) (w : World) (hm : s.size ≤ 1048576) (HZ : Hid (G.countZ s.data.toList = z)) :
    Calls Tryd.prog 80 #[.string s] w fun e w' => e = .returned (.int .i64 z) ∧ Below w.heap.size w w' := by
  obtain ⟨o, HO⟩ : ∃ o, Hid (G.chars s.data.toList = o) := ⟨_, rfl⟩
  go_enter Tryd.func80, Tryd.ntmps80
  go_wp2_with fail
  refine (all_any _ o _ hm HO).mono ?_
  rintro e w1 ⟨v, rfl, hown, hb⟩
  cases o with
  | none =>
    clear hown
    go_wp2
    go_ret
    refine ⟨ret_i64 ?_, hb⟩
    rw [← HZ.out]
    unfold G.countZ
    rw [HO.out]
  | some cs =>
    obtain ⟨cap, a, rfl⟩ : ∃ cap a, v = .slice a cs.length cap := by
      obtain ⟨_, ⟨rfl, h0⟩ | ⟨g, cap, cur, rfl, _⟩⟩ := hown
      · exact ⟨0, none, by rw [show cs.length = 0 from h0]⟩
      · exact ⟨cap, _, rfl⟩
    clear hown
    go_wp2
    go_ret
    refine ⟨ret_i64 ?_, hb⟩
    rw [← HZ.out]
    unfold G.countZ
    rw [HO.out]

set_option maxRecDepth 100000 in
set_option maxHeartbeats 400000 in
theorem rname_any (s : ByteArray) (z : Bool) (w : World) (hm : s.size ≤ 1048576) (HZ : Hid (G.nameB s.data.toList = z)) :
    Calls Tryd.prog 68 #[.string s] w fun e w' => e = .returned (.bool z) ∧ Below w.heap.size w w' := by
  obtain ⟨o, HO⟩ : ∃ o, Hid (G.chars s.data.toList = o) := ⟨_, rfl⟩
  go_enter Tryd.func68, Tryd.ntmps68
  go_wp2_with fail
  refine (all_any _ o _ hm HO).mono ?_
  rintro e w1 ⟨v, rfl, hown, hb⟩
  cases o with
  | none =>
    have E : Hid (z = false) := by
      show _ = _
      rw [← HZ.out]
      unfold G.nameB G.partsB
      rw [HO.out]
      simp
    clear hown
    go_wp2
    go_ret
    exact ⟨ret_bool E.out.symm, hb⟩
  | some cs =>
    by_cases h : 0 < s.size
    · have HL : Hid (s.data.toList ≠ []) := list_of_pos s h
      obtain ⟨⟨c, n⟩, HN⟩ : ∃ p, Hid (G.nextL s.data.toList = p) := ⟨_, rfl⟩
      obtain ⟨ds, HD⟩ : ∃ ds, Hid (cs = c :: ds) := by
        have q := HO.out
        by_cases z0 : n = 0
        · rw [G.chars_none _ HL.out (by rw [HN.out]; exact z0)] at q
          cases q
        · rw [G.chars_cons _ HL.out (by rw [HN.out]; exact z0), HN.out] at q
          obtain ⟨zs, _, e⟩ := Option.map_eq_some_iff.1 q
          exact ⟨zs, e.symm⟩
      have clen : 0 < cs.length := by rw [HD.out]; simp
      have cle : cs.length ≤ 1048576 := by
        have := G.chars_len _ s.data.toList cs (Nat.le_refl _) HO.out
        simp at this
        omega
      obtain ⟨g, cap, rfl, hcell, hg⟩ : ∃ g cap, v = .slice (some ⟨g, 0, none⟩) cs.length cap ∧ (∀ j, j < cs.length → w1.cell? ⟨g, j, none⟩ = some (.int .i32 (cs.getD j 0))) ∧ g < w1.heap.size := by
        have hown' := hown
        obtain ⟨_, ⟨_, h0⟩ | ⟨g, cap, cur, rfl, _, hg, _⟩⟩ := hown
        · exact absurd (show cs.length = 0 from h0) (by omega)
        · refine ⟨g, cap, rfl, fun j hj => ?_, ?_⟩
          · have := hown'.cells (g := g) rfl j (.int .i32 (cs.getD j 0)) (by simp [List.getElem?_eq_getElem hj])
            rwa [show (⟨g, 0, none⟩ : Addr).add j = ⟨g, j, none⟩ by unfold Addr.add; split <;> simp_all] at this
          · exact (hown'.lt g rfl).2
      have c0 : w1.cell? ⟨g, 0, none⟩ = some (.int .i32 c) := by
        rw [hcell 0 clen, HD.out]; rfl
      have HC : Hid (∀ j, j < cs.length → w1.cell? ⟨g, j, none⟩ = some (.int .i32 (cs.getD j 0))) := hcell
      clear hcell hown
      by_cases big : 60 < s.size
      · have E : Hid (z = false) := by
          show _ = _
          rw [← HZ.out]
          simp [G.nameB]
          intro; omega
        go_wp2
        go_ret
        exact ⟨ret_bool E.out.symm, hb⟩
      · have E : Hid (z = (G.startB c && cs.all G.partB)) := by
          show _ = _
          rw [← HZ.out]
          unfold G.nameB G.partsB
          rw [HO.out, HN.out]
          simp [show s.size ≤ 60 by omega]
        go_wp2_with fail
        refine (rstart_any _ _).mono ?_
        rintro e w1' ⟨rfl, rfl⟩
        cases hst : G.startB c
        · have E1 : Hid (z = false) := by show _ = _; rw [E.out, hst]; rfl
          clear hst
          go_wp2
          go_ret
          exact ⟨ret_bool E1.out.symm, hb⟩
        · have E1 : Hid (z = cs.all G.partB) := by show _ = _; rw [E.out, hst]; rfl
          clear hst E c0
          go_wp2_with fail
          go_loop [5] (fun i => ∃ k : Nat, k ≤ cs.length ∧ i = .int .i64 k ∧ Hid ((cs.take k).all G.partB = true)) (fun i => cs.length - (intOf i).toNat)
          case atStart => exact ⟨0, Nat.zero_le _, rfl, rfl⟩
          case round =>
            obtain ⟨k, hk, rfl, HK⟩ := hrel
            by_cases klt : k < cs.length
            · have ck := HC.out k klt
              have gd : cs.getD k 0 = cs[k] := by simp [klt]
              rw [gd] at ck
              clear gd
              obtain ⟨d, hd⟩ : ∃ d, d = cs[k] := ⟨_, rfl⟩
              rw [← hd] at ck
              have HDk : Hid (d = cs[k]) := hd
              clear hd
              go_wp2_with fail
              refine (rpart_any _ _).mono ?_
              rintro e w1'' ⟨rfl, rfl⟩
              cases hp : G.partB d
              · have E2 : Hid (z = false) := by
                  show _ = _
                  rw [E1.out, List.all_eq_false]
                  exact ⟨cs[k], List.getElem_mem klt, by rw [← HDk.out, hp]; simp⟩
                clear hp
                go_wp2
                go_ret
                exact ⟨ret_bool E2.out.symm, hb⟩
              · have E2 : Hid ((cs.take (k + 1)).all G.partB = true) := by
                  show _ = _
                  rw [List.take_succ_eq_append_getElem klt, List.all_append, HK.out, ← HDk.out]
                  simp [hp]
                clear hp
                go_wp2
                go_round
                case rel => exact ⟨k + 1, by omega, by go_num, E2⟩
                case measure => simp [intOf]; omega
            · have e : k = cs.length := by omega
              subst e
              have E2 : Hid (z = true) := by
                show _ = _
                have := HK.out
                rw [List.take_length] at this
                rw [E1.out, this]
              go_wp2
              go_ret
              exact ⟨ret_bool E2.out.symm, hb⟩
    · have E : Hid (z = false) := by
        show _ = _
        rw [← HZ.out, nil_of s h]
        decide
      have hz : s.size = 0 := by omega
      clear hown
      go_wp2
      go_ret
      exact ⟨ret_bool E.out.symm, hb⟩

end Go.Proofs.YtidccohjehegjaaDoor
