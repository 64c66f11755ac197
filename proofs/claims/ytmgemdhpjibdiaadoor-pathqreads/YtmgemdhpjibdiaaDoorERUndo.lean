/- The walks of the document's own Undo, escaped, Text and Value over texts that are not too long: each tells the plain function's answer. -/
import Derived.Test.YtmgemdhpjibdiaaDoorERRef
import Derived.Test.YtmgemdhpjibdiaaDoorGRAll
namespace Go.Proofs.YtmgemdhpjibdiaaDoor
open Go.RowKit
set_option maxRecDepth 100000 in
set_option maxHeartbeats 1000000 in
theorem rundo_any (s : ByteArray) (v : Bool) (r : ByteArray) (k : Nat) (e0 : Int) (w : World) (hm : s.size ≤ 20000) (H : Hid (E.undoL v s.data.toList = (r.data.toList, k, e0))) :
    Calls Tryd.prog 143 #[.string s, .bool v] w fun e w' => e = .returned (.tuple #[.string r, .int .i64 (k : Int), .int .i64 e0]) ∧ Below w.heap.size w w' := by
  go_enter Tryd.func143, Tryd.ntmps143
  go_wp2
  go_loopw [7, 8] (fun v7 v8 W => ∃ (o f : Nat) (q : ByteArray), v8 = .int .i64 (o : Int) ∧ v7 = .string q ∧ o ≤ s.size ∧ q.size ≤ o ∧ s.size - o < f ∧ Hid (E.undoL v s.data.toList = E.undoF v f o q.data.toList (s.data.toList.drop o)) ∧ Below w.heap.size w W) (fun _ v8 _ => s.size - (intOf v8).toNat)
  case atStart => exact ⟨0, s.size + 1, ⟨#[]⟩, rfl, rfl, by omega, by simp [ByteArray.size], by omega, by show _ = _; simp [E.undoL], Below.refl _ _⟩
  case round =>
    obtain ⟨o, f, q0, rfl, rfl, ho, hl, hf, HU, hb⟩ := hrel
    have hs := hb.size
    by_cases h : o < s.size
    · have dl : (s.data.toList.drop o).length = s.size - o := by simp
      have DL := hid dl
      have dn : s.data.toList.drop o ≠ [] := by
        intro q
        rw [q] at dl
        simp at dl
        omega
      have DN := hid dn
      clear dl dn
      have HQ : Hid ((s.extract o s.size).size ≤ maxLen) := by show _ ≤ _; rw [size_drop]; unfold maxLen; omega
      obtain ⟨⟨c, n⟩, HN0⟩ : ∃ p, Hid (G.nextL (s.data.toList.drop o) = p) := ⟨_, rfl⟩
      have HN : Hid (G.nextL (s.extract o s.size).data.toList = (c, n)) := by show _ = _; rw [drop_eq]; exact HN0.out
      have N1 : Hid ((G.nextL (s.data.toList.drop o)).1 = c) := by show _ = _; rw [HN0.out]
      have N2 : Hid ((G.nextL (s.data.toList.drop o)).2 = n) := by show _ = _; rw [HN0.out]
      have hn : n ≤ s.size - o := by have := G.next_le (s.data.toList.drop o); rw [HN0.out, DL.out] at this; exact this
      have goOn : ∀ (t : ByteArray) (m : Nat), E.stepU v (s.data.toList.drop o) = (t.data.toList, m, 0) → 1 ≤ m ∧ m ≤ s.size - o ∧ t.size ≤ m ∧ Hid (E.undoL v s.data.toList = E.undoF v (f - 1) (o + m) (q0 ++ t).data.toList (s.data.toList.drop (o + m))) := by
        intro t m st
        have ok := E.step_ok v _ (by rw [st])
        rw [st, DL.out] at ok
        simp only at ok
        obtain ⟨k1, k2, k3⟩ := ok
        refine ⟨k1, k2, by simpa using k3, ?_⟩
        show _ = _
        rw [HU.out, E.undoF_ok DN.out (by rw [DL.out]; omega) st, List.drop_drop]
        simp
      have GO := hid goOn
      clear goOn
      by_cases c1 : c = 60 ∨ c = 62
      · have n1 : 0 < n := by
          rcases Nat.eq_zero_or_pos n with z | z
          · have := G.next_zero _ DN.out (by rw [N2.out]; exact z)
            rw [N1.out] at this
            omega
          · exact z
        have st := E.step_form (v := v) (l := s.data.toList.drop o) (by rw [N1.out]; exact c1)
        have ST := hid st
        clear st
        rcases c1 with rfl | rfl
        all_goals
          have q := HU.out
          rw [E.undoF_bad DN.out (by rw [DL.out]; omega) ST.out (by decide)] at q
          obtain ⟨e2, rfl, rfl⟩ := tri_eq H.out q
          have E1 : Hid (⟨#[]⟩ = r) := WideShapes.bytes_inj e2.symm
          clear q e2 HU
          go_wp2_with fail
          refine (rnext_any _ _ _ _ HQ.out HN).mono ?_
          rintro e w1 ⟨rfl, hb1⟩
          go_wp2
          go_ret3
          exact ⟨ret_sie E1.out rfl rfl, hb.trans (hb1.mono hs)⟩
      have b60 : (c == 60) = false := beq_eq_false_iff_ne.2 (by omega)
      have b62 : (c == 62) = false := beq_eq_false_iff_ne.2 (by omega)
      by_cases c2 : c = 38
      · subst c2
        have n1 : 0 < n := by
          rcases Nat.eq_zero_or_pos n with z | z
          · have := G.next_zero _ DN.out (by rw [N2.out]; exact z)
            rw [N1.out] at this
            omega
          · exact z
        have nz : ((n : Int) == 0) = false := beq_eq_false_iff_ne.2 (by omega)
        have p0 : Hid (E.peekV (s.extract o s.size).data.toList 0 = 38) := by
          show _ = _
          rw [drop_eq]
          exact E.next_first _ (by rw [N1.out])
        obtain ⟨⟨kc, m⟩, HR⟩ : ∃ p, Hid (E.refL (s.extract o s.size).data.toList = p) := ⟨_, rfl⟩
        have HR0 : Hid (E.refL (s.data.toList.drop o) = (kc, m)) := by show _ = _; rw [← drop_eq]; exact HR.out
        have kr := E.ref_range (s.extract o s.size).data.toList
        rw [HR.out] at kr
        obtain ⟨kr0, kr1⟩ := kr
        simp only at kr0 kr1
        have st := E.step_ref (v := v) N1.out HR0.out
        have HS : Hid ((s.extract o s.size).size ≤ 20000) := by show _ ≤ _; rw [size_drop]; omega
        by_cases m0 : m = 0
        · subst m0
          rw [if_pos rfl] at st
          have q := HU.out
          rw [E.undoF_bad DN.out (by rw [DL.out]; omega) st (by decide)] at q
          obtain ⟨e2, rfl, rfl⟩ := tri_eq H.out q
          have E1 : Hid (⟨#[]⟩ = r) := WideShapes.bytes_inj e2.symm
          clear q e2 HU st
          cases v
          all_goals
            go_wp2_with fail
            refine (rnext_any _ _ _ _ HQ.out HN).mono ?_
            rintro e w1 ⟨rfl, hb1⟩
            have hb2 : Below w.heap.size w w1 := hb.trans (hb1.mono hs)
            clear hb hb1 hs
            have hs2 := hb2.size
            go_wp2_with fail
            refine (rreference_any _ kc 0 _ HS.out p0.out HR).mono ?_
            rintro e w2 ⟨rfl, hb3⟩
            go_wp2
            go_ret3
            exact ⟨ret_sie E1.out rfl rfl, hb2.trans (hb3.mono hs2)⟩
        · rw [if_neg m0] at st
          have mz : ((m : Int) == 0) = false := beq_eq_false_iff_ne.2 (by omega)
          cases cb : G.charB kc
          · rw [if_pos cb] at st
            have CB : Hid (G.charB kc = false) := cb
            have q := HU.out
            rw [E.undoF_bad DN.out (by rw [DL.out]; omega) st (by decide)] at q
            obtain ⟨e2, rfl, rfl⟩ := tri_eq H.out q
            have E1 : Hid (⟨#[]⟩ = r) := WideShapes.bytes_inj e2.symm
            clear q e2 HU st cb
            cases v
            all_goals
              go_wp2_with fail
              refine (rnext_any _ _ _ _ HQ.out HN).mono ?_
              rintro e w1 ⟨rfl, hb1⟩
              have hb2 : Below w.heap.size w w1 := hb.trans (hb1.mono hs)
              clear hb hb1 hs
              have hs2 := hb2.size
              go_wp2_with fail
              refine (rreference_any _ kc m _ HS.out p0.out HR).mono ?_
              rintro e w2 ⟨rfl, hb3⟩
              have hb4 : Below w.heap.size w w2 := hb2.trans (hb3.mono hs2)
              clear hb2 hb3 hs2
              have hs4 := hb4.size
              go_wp2_with fail
              refine (rput_no _ _ CB.out).mono ?_
              rintro e w3 ⟨rfl, hb5⟩
              go_wp2
              go_ret3
              exact ⟨ret_sie E1.out rfl rfl, hb4.trans (hb5.mono hs4)⟩
          · rw [if_neg (by rw [cb]; simp)] at st
            have CB : Hid (G.charB kc = true) := cb
            obtain ⟨t, HT⟩ : ∃ t, Hid (strOfNums (G.putN kc) = t) := ⟨_, rfl⟩
            obtain ⟨g1, g2, g3, HU2⟩ := GO.out t m (by rw [st, ← HT.out]; rfl)
            clear st cb HU GO
            cases v
            all_goals
              go_wp2_with fail
              refine (rnext_any _ _ _ _ HQ.out HN).mono ?_
              rintro e w1 ⟨rfl, hb1⟩
              have hb2 : Below w.heap.size w w1 := hb.trans (hb1.mono hs)
              clear hb hb1 hs
              have hs2 := hb2.size
              go_wp2_with fail
              refine (rreference_any _ kc m _ HS.out p0.out HR).mono ?_
              rintro e w2 ⟨rfl, hb3⟩
              have hb4 : Below w.heap.size w w2 := hb2.trans (hb3.mono hs2)
              clear hb2 hb3 hs2
              have hs4 := hb4.size
              go_wp2_with fail
              refine (rput_yes _ _ CB.out).mono ?_
              rintro e w3 ⟨rfl, hb5⟩
              rw [HT.out]
              go_wp2
              go_roundw
              case rel => exact ⟨o + m, f - 1, q0 ++ t, by go_num, rfl, by omega, by rw [ByteArray.size_append]; omega, by omega, HU2, hb4.trans (hb5.mono hs4)⟩
              case measure => simp [intOf]; omega
      have b38 : (c == 38) = false := beq_eq_false_iff_ne.2 c2
      have ib := E.instead_bad c v c2 (by omega) (by omega)
      by_cases bad : n = 0 ∨ c = 13 ∨ (v = true ∧ (c = 34 ∨ c = 9 ∨ c = 10))
      · have st : E.stepU v (s.data.toList.drop o) = ([], 0, 21) := E.step_char (by rw [N1.out]; exact c2) (by rw [N1.out]; omega) (by rw [N1.out]; omega) (by
          rw [N1.out, N2.out]
          rcases bad with q | q
          · exact .inl q
          · exact .inr (ib.2 q))
        have ST := hid st
        clear st ib c1
        rcases bad with rfl | rfl | ⟨rfl, rfl | rfl | rfl⟩
        · have q := HU.out
          rw [E.undoF_bad DN.out (by rw [DL.out]; omega) ST.out (by decide)] at q
          obtain ⟨e2, rfl, rfl⟩ := tri_eq H.out q
          have E1 : Hid (⟨#[]⟩ = r) := WideShapes.bytes_inj e2.symm
          clear q e2 HU
          go_wp2_with fail
          refine (rnext_any _ _ _ _ HQ.out HN).mono ?_
          rintro e w1 ⟨rfl, hb1⟩
          go_wp2
          go_ret3
          exact ⟨ret_sie E1.out rfl rfl, hb.trans (hb1.mono hs)⟩
        · by_cases nz : n = 0
          · subst nz
            have q := HU.out
            rw [E.undoF_bad DN.out (by rw [DL.out]; omega) ST.out (by decide)] at q
            obtain ⟨e2, rfl, rfl⟩ := tri_eq H.out q
            have E1 : Hid (⟨#[]⟩ = r) := WideShapes.bytes_inj e2.symm
            clear q e2 HU
            go_wp2_with fail
            refine (rnext_any _ _ _ _ HQ.out HN).mono ?_
            rintro e w1 ⟨rfl, hb1⟩
            go_wp2
            go_ret3
            exact ⟨ret_sie E1.out rfl rfl, hb.trans (hb1.mono hs)⟩
          · have nz2 : ((n : Int) == 0) = false := beq_eq_false_iff_ne.2 (by omega)
            have q := HU.out
            rw [E.undoF_bad DN.out (by rw [DL.out]; omega) ST.out (by decide)] at q
            obtain ⟨e2, rfl, rfl⟩ := tri_eq H.out q
            have E1 : Hid (⟨#[]⟩ = r) := WideShapes.bytes_inj e2.symm
            clear q e2 HU
            go_wp2_with fail
            refine (rnext_any _ _ _ _ HQ.out HN).mono ?_
            rintro e w1 ⟨rfl, hb1⟩
            go_wp2
            go_ret3
            exact ⟨ret_sie E1.out rfl rfl, hb.trans (hb1.mono hs)⟩
        all_goals
          by_cases nz : n = 0
          · subst nz
            have q := HU.out
            rw [E.undoF_bad DN.out (by rw [DL.out]; omega) ST.out (by decide)] at q
            obtain ⟨e2, rfl, rfl⟩ := tri_eq H.out q
            have E1 : Hid (⟨#[]⟩ = r) := WideShapes.bytes_inj e2.symm
            clear q e2 HU
            go_wp2_with fail
            refine (rnext_any _ _ _ _ HQ.out HN).mono ?_
            rintro e w1 ⟨rfl, hb1⟩
            go_wp2
            go_ret3
            exact ⟨ret_sie E1.out rfl rfl, hb.trans (hb1.mono hs)⟩
          · have nz2 : ((n : Int) == 0) = false := beq_eq_false_iff_ne.2 (by omega)
            have q := HU.out
            rw [E.undoF_bad DN.out (by rw [DL.out]; omega) ST.out (by decide)] at q
            obtain ⟨e2, rfl, rfl⟩ := tri_eq H.out q
            have E1 : Hid (⟨#[]⟩ = r) := WideShapes.bytes_inj e2.symm
            clear q e2 HU
            go_wp2_with fail
            refine (rnext_any _ _ _ _ HQ.out HN).mono ?_
            rintro e w1 ⟨rfl, hb1⟩
            go_wp2
            go_ret3
            exact ⟨ret_sie E1.out rfl rfl, hb.trans (hb1.mono hs)⟩
      · have n1 : n ≠ 0 := fun q => bad (.inl q)
        have nz : ((n : Int) == 0) = false := beq_eq_false_iff_ne.2 (by omega)
        have b13 : (c == 13) = false := beq_eq_false_iff_ne.2 fun q => bad (.inr (.inl q))
        have self : E.insteadL c v = [] := by
          by_cases q : E.insteadL c v = []
          · exact q
          · exact absurd (.inr (ib.1 q)) bad
        obtain ⟨cb, pl⟩ := G.next_putL _ c n HN0.out n1
        have CB : Hid (G.charB c = true) := cb
        have st : E.stepU v (s.data.toList.drop o) = ((s.data.toList.drop o).take n, n, 0) := by
          have := E.step_self (v := v) (l := s.data.toList.drop o) (by rw [N1.out]; exact c2) (by rw [N1.out]; omega) (by rw [N1.out]; omega) (by rw [N2.out]; exact n1) (by rw [N1.out]; exact self)
          rw [N2.out] at this
          exact this
        obtain ⟨t, HT⟩ : ∃ t, Hid (strOfNums (G.putN c) = t) := ⟨_, rfl⟩
        obtain ⟨g1, g2, g3, HU2⟩ := GO.out t n (by rw [st, ← HT.out, ← pl]; rfl)
        have vb : v = true → (c == 34) = false ∧ (c == 9) = false ∧ (c == 10) = false := fun q =>
          ⟨beq_eq_false_iff_ne.2 fun z => bad (.inr (.inr ⟨q, .inl z⟩)), beq_eq_false_iff_ne.2 fun z => bad (.inr (.inr ⟨q, .inr (.inl z)⟩)), beq_eq_false_iff_ne.2 fun z => bad (.inr (.inr ⟨q, .inr (.inr z)⟩))⟩
        clear st cb HU GO ib self pl c1
        cases v
        · clear vb bad
          go_wp2_with fail
          refine (rnext_any _ _ _ _ HQ.out HN).mono ?_
          rintro e w1 ⟨rfl, hb1⟩
          have hb2 : Below w.heap.size w w1 := hb.trans (hb1.mono hs)
          clear hb hb1 hs
          have hs2 := hb2.size
          go_wp2_with fail
          refine (rput_yes _ _ CB.out).mono ?_
          rintro e w3 ⟨rfl, hb5⟩
          rw [HT.out]
          go_wp2
          go_roundw
          case rel => exact ⟨o + n, f - 1, q0 ++ t, by go_num, rfl, by omega, by rw [ByteArray.size_append]; omega, by omega, HU2, hb2.trans (hb5.mono hs2)⟩
          case measure => simp [intOf]; omega
        · obtain ⟨v1, v2, v3⟩ := vb rfl
          clear vb bad
          go_wp2_with fail
          refine (rnext_any _ _ _ _ HQ.out HN).mono ?_
          rintro e w1 ⟨rfl, hb1⟩
          have hb2 : Below w.heap.size w w1 := hb.trans (hb1.mono hs)
          clear hb hb1 hs
          have hs2 := hb2.size
          go_wp2_with fail
          refine (rput_yes _ _ CB.out).mono ?_
          rintro e w3 ⟨rfl, hb5⟩
          rw [HT.out]
          go_wp2
          go_roundw
          case rel => exact ⟨o + n, f - 1, q0 ++ t, by go_num, rfl, by omega, by rw [ByteArray.size_append]; omega, by omega, HU2, hb2.trans (hb5.mono hs2)⟩
          case measure => simp [intOf]; omega
    · obtain rfl : o = s.size := by omega
      have q := HU.out
      rw [List.drop_eq_nil_of_le (by simp), E.undoF_nil] at q
      obtain ⟨e2, rfl, rfl⟩ := tri_eq H.out q
      have E1 : Hid (q0 = r) := WideShapes.bytes_inj (by rw [e2])
      clear q e2 HU
      go_wp2
      go_ret3
      exact ⟨ret_sie E1.out rfl rfl, hb⟩
end Go.Proofs.YtmgemdhpjibdiaaDoor
