/- The walks of escape.reference, referred and undone: the reference that a text begins with; what its first thing stands for. -/
import Derived.Test.YtmgemdhpjibdiaaDoorERef
import Derived.Test.YtmgemdhpjibdiaaDoorERefPlain
namespace Go.Proofs.YtmgemdhpjibdiaaDoor
open Go.RowKit
theorem reference_any (s : ByteArray) (c : Int) (n : Nat) (w : World) (H : Hid (E.refL s.data.toList = (c, n))) :
    Calls Tryd.prog 150 #[.string s] w fun e w' => e = .returned (.tuple #[.int .i32 c, .int .i64 (n : Int)]) ∧ w' = w := by
  obtain ⟨p1, h1⟩ : ∃ p1, Hid (E.peekV s.data.toList 1 = p1) := ⟨_, rfl⟩
  obtain ⟨p2, h2⟩ : ∃ p2, Hid (E.peekV s.data.toList 2 = p2) := ⟨_, rfl⟩
  by_cases a0 : p1 = 35
  · subst a0
    have q := H.out
    rw [E.ref_at35 _ h1.out, h2.out] at q
    by_cases b0 : p2 = 120
    · subst b0
      exact ref_hex s w c n 120 h1 h2 rfl (hid (by simpa using q))
    · rw [if_neg b0] at q
      exact ref_ten s w c n p2 h1 h2 (beq_eq_false_iff_ne.2 b0) q
  by_cases a1 : p1 = 108
  · subst a1
    obtain ⟨b, hb⟩ : ∃ b, E.preB E.lt s.data.toList = b := ⟨_, rfl⟩
    obtain ⟨rfl, rfl⟩ := E.pair_eq H.out (E.ref_atl _ h1.out b hb)
    cases b <;> exact ref_l s w _ h1 hb
  by_cases a2 : p1 = 103
  · subst a2
    obtain ⟨b, hb⟩ : ∃ b, E.preB E.gt s.data.toList = b := ⟨_, rfl⟩
    obtain ⟨rfl, rfl⟩ := E.pair_eq H.out (E.ref_atg _ h1.out b hb)
    cases b <;> exact ref_g s w _ h1 hb
  by_cases a3 : p1 = 113
  · subst a3
    obtain ⟨b, hb⟩ : ∃ b, E.preB E.quot s.data.toList = b := ⟨_, rfl⟩
    obtain ⟨rfl, rfl⟩ := E.pair_eq H.out (E.ref_atq _ h1.out b hb)
    cases b <;> exact ref_q s w _ h1 hb
  by_cases a4 : p1 = 97
  · subst a4
    by_cases b1 : p2 = 109
    · subst b1
      obtain ⟨b, hb⟩ : ∃ b, E.preB E.amp s.data.toList = b := ⟨_, rfl⟩
      obtain ⟨rfl, rfl⟩ := E.pair_eq H.out (E.ref_atam _ h1.out h2.out b hb)
      cases b <;> exact ref_am s w _ h1 h2 hb
    by_cases b2 : p2 = 112
    · subst b2
      obtain ⟨b, hb⟩ : ∃ b, E.preB E.apos s.data.toList = b := ⟨_, rfl⟩
      obtain ⟨rfl, rfl⟩ := E.pair_eq H.out (E.ref_atap _ h1.out h2.out b hb)
      cases b <;> exact ref_ap s w _ h1 h2 hb
    · obtain ⟨rfl, rfl⟩ := E.pair_eq H.out (E.ref_ata _ h1.out (by rw [h2.out]; exact b1) (by rw [h2.out]; exact b2))
      exact ref_a s w p2 h1 h2 (beq_eq_false_iff_ne.2 b1) (beq_eq_false_iff_ne.2 b2)
  · obtain ⟨rfl, rfl⟩ := E.pair_eq H.out (E.ref_atno _ (by rw [h1.out]; exact a0) (by rw [h1.out]; exact a4) (by rw [h1.out]; exact a1) (by rw [h1.out]; exact a2) (by rw [h1.out]; exact a3))
    exact ref_none s w p1 h1 (beq_eq_false_iff_ne.2 a0) (beq_eq_false_iff_ne.2 a4) (beq_eq_false_iff_ne.2 a1) (beq_eq_false_iff_ne.2 a2) (beq_eq_false_iff_ne.2 a3)

theorem take_eq' (r : ByteArray) (n : Nat) : (r.extract 0 n).data.toList = r.data.toList.take n := by
  rw [Lib.extract_data]; simp
theorem ret_sie {a b : ByteArray} {n m e f : Int} (h : a = b) (k : n = m) (j : e = f) : Ending.returned (.tuple #[.string a, .int .i64 n, .int .i64 e]) = .returned (.tuple #[.string b, .int .i64 m, .int .i64 f]) := by rw [h, k, j]
theorem tri_eq {x : List UInt8 × Nat × Int} {r : ByteArray} {l : List UInt8} {n k : Nat} {e f : Int} (a : x = (r.data.toList, k, e)) (b : x = (l, n, f)) : r.data.toList = l ∧ n = k ∧ f = e := by
  have := b.symm.trans a
  simp only [Prod.mk.injEq] at this
  exact ⟨this.1.symm, this.2.1, this.2.2⟩

set_option maxRecDepth 100000 in
set_option maxHeartbeats 400000 in
theorem referred_any (s : ByteArray) (v : Bool) (r : ByteArray) (k : Nat) (e0 : Int) (w : World) (ht : Tab w) (hn : (G.nextL s.data.toList).1 = 38) (H : Hid (E.stepU v s.data.toList = (r.data.toList, k, e0))) :
    Calls Tryd.prog 141 #[.string s] w fun e w' => e = .returned (.tuple #[.string r, .int .i64 (k : Int), .int .i64 e0]) ∧ Below w.heap.size w w' := by
  obtain ⟨⟨c, n⟩, HR⟩ : ∃ p, Hid (E.refL s.data.toList = p) := ⟨_, rfl⟩
  have hs := E.step_ref (v := v) hn HR.out
  have Ht : Hid (Tab w) := ht
  clear ht hn
  by_cases n0 : n = 0
  · subst n0
    rw [if_pos rfl] at hs
    obtain ⟨e1, rfl, rfl⟩ := tri_eq H.out hs
    have E1 : Hid (⟨#[]⟩ = r) := WideShapes.bytes_inj e1.symm
    clear e1 hs
    go_enter Tryd.func141, Tryd.ntmps141
    go_wp2_with fail
    refine (reference_any _ c 0 _ HR).mono ?_
    rintro e w1 ⟨rfl, rfl⟩
    go_wp2
    go_ret3
    exact ⟨ret_sie E1.out rfl rfl, Below.refl _ _⟩
  · have b0 : ((n : Int) == 0) = false := by simp; exact n0
    rw [if_neg n0] at hs
    cases cb : G.charB c
    · rw [if_pos cb] at hs
      obtain ⟨e1, rfl, rfl⟩ := tri_eq H.out hs
      have E1 : Hid (⟨#[]⟩ = r) := WideShapes.bytes_inj e1.symm
      have CB : Hid (G.charB c = false) := cb
      clear e1 hs cb
      go_enter Tryd.func141, Tryd.ntmps141
      go_wp2_with fail
      refine (reference_any _ c n _ HR).mono ?_
      rintro e w1 ⟨rfl, rfl⟩
      go_wp2_with fail
      refine (put_no _ _ Ht.out CB.out).mono ?_
      rintro e w2 ⟨rfl, hb⟩
      go_wp2
      go_ret3
      exact ⟨ret_sie E1.out rfl rfl, hb⟩
    · rw [if_neg (by rw [cb]; simp)] at hs
      obtain ⟨e1, rfl, rfl⟩ := tri_eq H.out hs
      have E1 : Hid (strOfNums (G.putN c) = r) := WideShapes.bytes_inj e1.symm
      have CB : Hid (G.charB c = true) := cb
      clear e1 hs cb
      go_enter Tryd.func141, Tryd.ntmps141
      go_wp2_with fail
      refine (reference_any _ c n _ HR).mono ?_
      rintro e w1 ⟨rfl, rfl⟩
      go_wp2_with fail
      refine (put_yes _ _ Ht.out CB.out).mono ?_
      rintro e w2 ⟨rfl, hb⟩
      rw [E1.out]
      go_wp2
      go_ret3
      exact ⟨rfl, hb⟩

set_option maxRecDepth 100000 in
set_option maxHeartbeats 400000 in
theorem undone_any (s : ByteArray) (v : Bool) (r : ByteArray) (k : Nat) (e0 : Int) (w : World) (ht : Tab w) (hm : s.size ≤ maxLen) (H : Hid (E.stepU v s.data.toList = (r.data.toList, k, e0))) :
    Calls Tryd.prog 133 #[.string s, .bool v] w fun e w' => e = .returned (.tuple #[.string r, .int .i64 (k : Int), .int .i64 e0]) ∧ Below w.heap.size w w' := by
  obtain ⟨⟨c, n⟩, HN⟩ : ∃ p, Hid (G.nextL s.data.toList = p) := ⟨_, rfl⟩
  have n1 : (G.nextL s.data.toList).1 = c := by rw [HN.out]
  have n2 : (G.nextL s.data.toList).2 = n := by rw [HN.out]
  have N1 := hid n1
  have N2 := hid n2
  have hn : n ≤ s.size := by have := G.next_le s.data.toList; rw [HN.out] at this; simpa using this
  clear n1 n2
  have Ht : Hid (Tab w) := ht
  have HM : Hid (s.size ≤ maxLen) := hm
  clear ht
  unfold maxLen at hm
  by_cases c1 : c = 38
  · subst c1
    go_enter Tryd.func133, Tryd.ntmps133
    go_wp2_with fail
    refine (next_any _ 38 n _ Ht.out HM.out HN).mono ?_
    rintro e w1 ⟨rfl, hb1⟩
    go_wp2_with fail
    refine (referred_any _ v r k e0 _ (Ht.out.below hb1) N1.out H).mono ?_
    rintro e w2 ⟨rfl, hb2⟩
    go_wp2
    go_ret3
    exact ⟨rfl, hb1.trans (hb2.mono hb1.size)⟩
  have b1 : (c == 38) = false := beq_eq_false_iff_ne.2 c1
  by_cases c2 : c = 60 ∨ c = 62
  · obtain ⟨e1, rfl, rfl⟩ := tri_eq H.out (E.step_form (by rw [N1.out]; exact c2))
    have E1 : Hid (⟨#[]⟩ = r) := WideShapes.bytes_inj e1.symm
    clear e1
    rcases c2 with rfl | rfl
    all_goals
      go_enter Tryd.func133, Tryd.ntmps133
      go_wp2_with fail
      refine (next_any _ _ n _ Ht.out HM.out HN).mono ?_
      rintro e w1 ⟨rfl, hb1⟩
      go_wp2
      go_ret3
      exact ⟨ret_sie E1.out rfl rfl, hb1⟩
  have b2 : (c == 60) = false := beq_eq_false_iff_ne.2 (by omega)
  have b3 : (c == 62) = false := beq_eq_false_iff_ne.2 (by omega)
  by_cases n0 : n = 0
  · obtain ⟨e1, rfl, rfl⟩ := tri_eq H.out (E.step_char (v := v) (by rw [N1.out]; omega) (by rw [N1.out]; omega) (by rw [N1.out]; omega) (.inl (by rw [N2.out]; exact n0)))
    have E1 : Hid (⟨#[]⟩ = r) := WideShapes.bytes_inj e1.symm
    clear e1
    subst n0
    go_enter Tryd.func133, Tryd.ntmps133
    go_wp2_with fail
    refine (next_any _ c 0 _ Ht.out HM.out HN).mono ?_
    rintro e w1 ⟨rfl, hb1⟩
    go_wp2
    go_ret3
    exact ⟨ret_sie E1.out rfl rfl, hb1⟩
  have b4 : ((n : Int) == 0) = false := by simp; exact n0
  by_cases i0 : E.insteadL c v = []
  · obtain ⟨e1, rfl, rfl⟩ := tri_eq H.out (E.step_self (v := v) (by rw [N1.out]; omega) (by rw [N1.out]; omega) (by rw [N1.out]; omega) (by rw [N2.out]; exact n0) (by rw [N1.out]; exact i0))
    have E1 : Hid (s.extract 0 n = r) := WideShapes.bytes_inj (by rw [e1, take_eq', N2.out])
    have HI : Hid ((⟨(E.insteadL c v).toArray⟩ : ByteArray) = ⟨#[]⟩) := by show _ = _; rw [i0]
    rw [N2.out]
    clear e1 i0
    go_enter Tryd.func133, Tryd.ntmps133
    go_wp2_with fail
    refine (next_any _ c n _ Ht.out HM.out HN).mono ?_
    rintro e w1 ⟨rfl, hb1⟩
    go_wp2_with fail
    refine (instead_any _ v ⟨#[]⟩ _ HI).mono ?_
    rintro e w2 ⟨rfl, rfl⟩
    go_wp2
    go_ret3
    exact ⟨ret_sie E1.out rfl rfl, hb1⟩
  · obtain ⟨e1, rfl, rfl⟩ := tri_eq H.out (E.step_char (v := v) (by rw [N1.out]; omega) (by rw [N1.out]; omega) (by rw [N1.out]; omega) (.inr (by rw [N1.out]; exact i0)))
    have E1 : Hid (⟨#[]⟩ = r) := WideShapes.bytes_inj e1.symm
    obtain ⟨q, HI⟩ : ∃ q, Hid ((⟨(E.insteadL c v).toArray⟩ : ByteArray) = q) := ⟨_, rfl⟩
    have q0 : q.toList.isEmpty = false := by
      rw [← HI.out, ByteArray.toList_eq]
      simpa using i0
    clear e1 i0
    go_enter Tryd.func133, Tryd.ntmps133
    go_wp2_with fail
    refine (next_any _ c n _ Ht.out HM.out HN).mono ?_
    rintro e w1 ⟨rfl, hb1⟩
    go_wp2_with fail
    refine (instead_any _ v q _ HI).mono ?_
    rintro e w2 ⟨rfl, rfl⟩
    go_wp2
    go_ret3
    exact ⟨ret_sie E1.out rfl rfl, hb1⟩
end Go.Proofs.YtmgemdhpjibdiaaDoor
