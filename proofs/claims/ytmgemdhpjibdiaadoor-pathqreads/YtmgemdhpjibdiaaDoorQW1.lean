/- Plain mathematics: a predicate by what stands at its place, digits first, as the program asks. -/
import Derived.Test.YtmgemdhpjibdiaaDoorQTab
import Derived.Test.YtmgemdhpjibdiaaDoorQRight
import Derived.Lib.QuietBelow
import Derived.Laws.ResultCell
namespace Go.Proofs.YtmgemdhpjibdiaaDoor
open Go.RowKit Go.Shelf
namespace Q
theorem ext_snoc (q : ByteArray) (i j : Nat) (hi : i ≤ j) (h : j < q.size) : (q.extract i (j + 1)).data.toList = (q.extract i j).data.toList ++ [q[j]] := by
  rw [Lib.extract_data, Lib.extract_data, show j + 1 - i = j - i + 1 by omega, List.take_add_one]
  congr 1
  rw [List.getElem?_drop, show i + (j - i) = j by omega]
  have h' : j < q.data.toList.length := by simpa using h
  rw [List.getElem?_eq_getElem h']
  rfl
theorem num_succ (q : ByteArray) (i j : Nat) (hi : i ≤ j) (h : j < q.size) : numL (q.extract i (j + 1)).data.toList = numL (q.extract i j).data.toList * 10 + ((q[j].toNat : Int) - 48) := by
  rw [ext_snoc q i j hi h]
  unfold numL
  rw [List.foldl_append]
  rfl
theorem run_all {p : UInt8 → Bool} {q : ByteArray} {i : Nat} (j : Nat) (h1 : i ≤ j) (h2 : j < L.runP p q i) (h3 : j < q.size) : p q[j] = true := by
  unfold L.runP at h2
  have h4 : j - i < ((q.data.toList.drop i).takeWhile p).length := by omega
  have h5 := List.all_eq_true.1 (List.all_takeWhile (p := p) (l := q.data.toList.drop i)) _ (List.getElem_mem h4)
  have h6 := (List.takeWhile_prefix p (l := q.data.toList.drop i)).getElem h4
  rw [h6, List.getElem_drop] at h5
  have : q.data.toList[i + (j - i)]'(by simp; omega) = q[j] := by
    have e : i + (j - i) = j := by omega
    simp only [e]
    rfl
  rw [this] at h5
  exact h5
theorem digit_of {c : UInt8} (h : digitB c = true) : 48 ≤ (c.toNat : Int) ∧ (c.toNat : Int) ≤ 57 := by
  unfold digitB at h
  simp only [Bool.and_eq_true, decide_eq_true_eq] at h
  omega
theorem num_small (q : ByteArray) (i j to : Nat) (hi : i ≤ j) (hj : j ≤ to) (ht : to ≤ q.size) (HT : L.runP digitB q i = to) (h4 : to - i ≤ 4) : 0 ≤ numL (q.extract i j).data.toList ∧ numL (q.extract i j).data.toList < 10000 := by
  have hl : (q.extract i j).data.toList.length = j - i := by simp; omega
  have hall : ∀ c ∈ (q.extract i j).data.toList, digitB c = true := by
    intro c hc
    rw [Lib.extract_data] at hc
    obtain ⟨k, hk, rfl⟩ := List.getElem_of_mem hc
    have hk2 : k < j - i := by have := hk; simp at this; omega
    rw [List.getElem_take, List.getElem_drop]
    have := run_all (p := digitB) (q := q) (i := i) (i + k) (by omega) (by omega) (by omega)
    exact this
  have h := num_bounds (q.extract i j).data.toList 0 hall (Int.le_refl _)
  rw [hl] at h
  have hp : (10 : Int) ^ (j - i) ≤ 10 ^ 4 := by
    have : j - i = 0 ∨ j - i = 1 ∨ j - i = 2 ∨ j - i = 3 ∨ j - i = 4 := by omega
    rcases this with e | e | e | e | e <;> rw [e] <;> decide
  unfold numL
  refine ⟨by simpa using h.1, ?_⟩
  have := h.2
  simp only [Int.zero_add, Int.one_mul] at this
  omega
end Q
section
variable {w0 : World} {b : Nat} {q : ByteArray} {i : Nat} {V : Value} {w : World}
set_option maxRecDepth 100000 in
set_option maxHeartbeats 1000000 in
theorem digits_any (R : Hid (QM w0 b q i V w)) (hi : i ≤ q.size) (hz : q.size ≤ 1048576) (to : Nat) (HD : Hid (L.runP Q.digitB q i = to)) :
    Calls Tryd.prog 92 #[.pointer (some ⟨b, 0, none⟩)] w fun e w' => e = .returned (.int .i64 ((to : Int) - i)) ∧ w' = w := by
  have c0 := R.out.c0
  have c1 := R.out.c1
  go_enter Tryd.func92, Tryd.ntmps92
  go_wp2
  go_loopw [3] (fun v3 W => ∃ j : Nat, v3 = .int .i64 (j : Int) ∧ i ≤ j ∧ j ≤ q.size ∧ Hid (L.runP Q.digitB q j = to) ∧ Hid (W = w)) (fun v3 _ => q.size - (intOf v3).toNat)
  case atStart => exact ⟨i, rfl, Nat.le_refl _, hi, HD, hid rfl⟩
  case round =>
    obtain ⟨j, rfl, hij, hj, HJ, HW⟩ := hrel
    obtain rfl := HW.out
    by_cases h : j < q.size
    · have h' : (j : Int) < (q.size : Int) := by omega
      cases hd : Q.digitB q[j] with
      | true =>
        obtain ⟨d1, d2⟩ := Q.digit_of hd
        have HJ2 : Hid (L.runP Q.digitB q (j + 1) = to) := hid ((L.run_yes h hd).symm.trans HJ.out)
        clear HJ hd
        go_wp2
        go_roundw
        case rel => exact ⟨j + 1, by go_num, by omega, by omega, HJ2, trivial⟩
        case measure => simp [intOf]; omega
      | false =>
        have HJ2 : Hid ((to : Int) = j) := hid (by rw [← HJ.out, L.run_no h hd])
        have hd2 : ¬ (48 ≤ (q[j].toNat : Int)) ∨ ¬ ((q[j].toNat : Int) ≤ 57) := by
          unfold Q.digitB at hd
          simp only [Bool.and_eq_false_iff, decide_eq_false_iff_not] at hd
          omega
        clear HJ hd
        rcases hd2 with hd2 | hd2
        · go_wp2
          go_ret
          exact ⟨by rw [HJ2.out]; go_num, rfl⟩
        · by_cases hd3 : 48 ≤ (q[j].toNat : Int)
          · go_wp2
            go_ret
            exact ⟨by rw [HJ2.out]; go_num, rfl⟩
          · exfalso
            omega
    · have h' : ¬ (j : Int) < (q.size : Int) := by omega
      have HJ2 : Hid ((to : Int) = j) := hid (by rw [← HJ.out, L.run_end (by omega)])
      clear HJ
      go_wp2
      go_ret
      exact ⟨by rw [HJ2.out]; go_num, rfl⟩
/-- What is told of a part of a query: it and the place behind, or what is amiss, and where; the reader stands there. -/
def ResQ {α : Type} (enc : α → Value) (w0 : World) (b : Nat) (q : ByteArray) (V : Value) (res : Except L.Bad (α × Nat)) (e : Ending) (w' : World) : Prop :=
  (∃ (z : Nat) (e0 : Int) (u : Value), res = .error ((z : Int), e0) ∧ e0 ≠ 0 ∧ z ≤ q.size ∧ e = .returned (.tuple #[u, .int .i64 e0]) ∧ (∃ a, u = enc a) ∧ QM w0 b q z V w') ∨
  (∃ (a : α) (n : Nat), res = .ok (a, n) ∧ n ≤ q.size ∧ e = .returned (.tuple #[enc a, .int .i64 0]) ∧ QM w0 b q n V w')
def numR (q : ByteArray) (i to : Nat) : Except L.Bad (Int × Nat) := if 4 < to - i ∨ L.thereB q i [48] = true then .error ((i : Int), 70) else .ok (Q.numL (q.extract i to).data.toList, to)
set_option maxRecDepth 100000 in
set_option maxHeartbeats 1000000 in
theorem number_any (R : Hid (QM w0 b q i V w)) (hi : i ≤ q.size) (hz : q.size ≤ 1048576) (to : Nat) (HD : Hid (L.runP Q.digitB q i = to)) (ht : i < to) :
    Calls Tryd.prog 93 #[.pointer (some ⟨b, 0, none⟩)] w fun e w' => ResQ (Value.int .i64) w0 b q V (numR q i to) e w' := by
  have htq : to ≤ q.size := by rw [← HD.out]; exact L.run_le hi
  go_enter Tryd.func93, Tryd.ntmps93
  go_wp2_with fail
  refine (digits_any R hi hz to HD).mono ?_
  rintro e w1 ⟨rfl, rfl⟩
  by_cases h4 : 4 < to - i
  · have h4' : (4 : Int) < (to : Int) - i := by omega
    have HR : Hid (numR q i to = .error ((i : Int), 70)) := hid (by unfold numR; rw [if_pos (Or.inl h4)])
    clear h4
    go_wp2
    go_ret2
    exact Or.inl ⟨i, 70, _, HR.out, by decide, hi, rfl, ⟨0, rfl⟩, R.out⟩
  · have h4' : ¬ (4 : Int) < (to : Int) - i := by omega
    have h4'' : to - i ≤ 4 := by omega
    cases h0 : L.thereB q i [48] with
    | true =>
      have HR : Hid (numR q i to = .error ((i : Int), 70)) := hid (by unfold numR; rw [if_pos (Or.inr h0)])
      have H0 : Hid (L.thereB q i (ByteArray.mk #[48]).data.toList = true) := hid h0
      clear h4 h0
      go_wp2_with fail
      refine (sees_any R hi ⟨#[48]⟩ _ H0).mono ?_
      rintro e w2 ⟨rfl, m, rfl⟩
      have R1 := hid (R.out.drewN m)
      generalize w1.drewN m = w2 at R1 ⊢
      go_wp2
      go_ret2
      exact Or.inl ⟨i, 70, _, HR.out, by decide, hi, rfl, ⟨0, rfl⟩, R1.out⟩
    | false =>
      have HR : Hid (numR q i to = .ok (Q.numL (q.extract i to).data.toList, to)) := hid (by unfold numR; rw [if_neg (by rintro (h | h); exact h4 h; rw [h0] at h; cases h)])
      have H0 : Hid (L.thereB q i (ByteArray.mk #[48]).data.toList = false) := hid h0
      clear h4 h0
      go_wp2_with fail
      refine (sees_any R hi ⟨#[48]⟩ _ H0).mono ?_
      rintro e w2 ⟨rfl, m, rfl⟩
      have R1 := hid (R.out.drewN m)
      generalize w1.drewN m = w2 at R1 ⊢
      go_wp2
      go_loopw [4, 5] (fun v4 v5 W => ∃ (j : Nat) (x : Int), v4 = .int .i64 ((to : Int) - j) ∧ v5 = .int .i64 x ∧ i ≤ j ∧ j ≤ to ∧ Hid (Q.numL (q.extract i j).data.toList = x) ∧ 0 ≤ x ∧ x < 10000 ∧ Hid (QM w0 b q j V W)) (fun v4 _ _ => (intOf v4).toNat)
      case atStart => exact ⟨i, 0, rfl, rfl, Nat.le_refl _, by omega, hid (by rw [Lib.extract_data]; simp [Q.numL]), by decide, by decide, R1⟩
      case round =>
        obtain ⟨j, x, rfl, rfl, hij, hj, HX, x0, x1, RJ⟩ := hrel
        have c0 := RJ.out.c0
        have c1 := RJ.out.c1
        have f1 := RJ.out.frozen 1
        by_cases h : j < to
        · have h' : (0 : Int) < (to : Int) - j := by omega
          have hjs : j < q.size := by omega
          have d := Q.digit_of (Q.run_all (p := Q.digitB) (q := q) (i := i) j hij (by rw [HD.out]; exact h) hjs)
          have HN := Q.num_succ q i j hij hjs
          have HB := Q.num_small q i (j + 1) to (by omega) (by omega) htq HD.out h4''
          rw [HN, HX.out] at HB
          rw [HX.out] at HN
          have HN2 : Hid (Q.numL (q.extract i (j + 1)).data.toList = x * 10 + ((q[j].toNat : Int) - 48)) := hid HN
          obtain ⟨d1, d2⟩ := d
          obtain ⟨B1, B2⟩ := HB
          clear HN HX
          go_wp2_with fail
          go_quiet (fail)
          go_wp2
          go_roundw
          case rel => exact ⟨j + 1, _, by go_num, rfl, by omega, by omega, hid (by rw [HN2.out]; try go_num), by go_num, by go_num, hid ((RJ.out.drewN _).set 1 _ (by go_num))⟩
          case measure => (simp [intOf]; try omega)
        · obtain rfl : j = to := by omega
          have h' : ¬ (0 : Int) < (j : Int) - j := by omega
          go_wp2
          go_ret2
          exact Or.inr ⟨x, j, by rw [HR.out, HX.out], htq, rfl, RJ.out⟩
end
end Go.Proofs.YtmgemdhpjibdiaaDoor
namespace Go.Proofs.YtmgemdhpjibdiaaDoor
open Go.RowKit Go.Shelf
namespace Q
theorem name_go {f : Nat} {l : List UInt8} {c : Int} {n : Nat} (h : G.nextL l = (c, n)) (hp : G.partB c = true) : 0 < n ∧ n ≤ l.length ∧ nameF (f + 1) l = n + nameF f (l.drop n) := by
  have hl : l ≠ [] := by
    rintro rfl
    have : G.nextL [] = (0, 0) := rfl
    rw [this] at h
    cases h
    exact absurd hp (by decide)
  have hn : n ≠ 0 := by
    rintro rfl
    have h2 := G.next_zero l hl (by rw [h])
    rw [h] at h2
    simp only at h2
    subst h2
    exact absurd hp (by decide)
  refine ⟨by omega, by have := G.next_le l; rw [h] at this; exact this, ?_⟩
  conv => lhs; unfold nameF
  rw [h, if_neg]
  rintro (h3 | h3 | h3)
  · exact hl h3
  · exact hn h3
  · simp only at h3
    rw [hp] at h3
    cases h3
theorem name_no {f : Nat} {l : List UInt8} {c : Int} {n : Nat} (h : G.nextL l = (c, n)) (hp : G.partB c = false) : nameF f l = 0 := by
  cases f with
  | zero => rfl
  | succ f =>
    unfold nameF
    rw [h, if_pos (Or.inr (Or.inr hp))]
end Q
section
variable {w0 : World} {b : Nat} {q : ByteArray} {i : Nat} {V : Value} {w : World}
def nameR (q : ByteArray) (i : Nat) : Except L.Bad (ByteArray × Nat) := if L.nameP (q.extract i (Q.nameEnd q i)) = false then .error ((i : Int), 70) else .ok (q.extract i (Q.nameEnd q i), Q.nameEnd q i)
set_option maxRecDepth 100000 in
set_option maxHeartbeats 1000000 in
theorem qname_any (R : Hid (QM w0 b q i V w)) (hi : i ≤ q.size) (hz : q.size ≤ 1048576) :
    Calls Tryd.prog 90 #[.pointer (some ⟨b, 0, none⟩)] w fun e w' => ResQ Value.string w0 b q V (nameR q i) e w' := by
  have c0 := R.out.c0
  have c1 := R.out.c1
  obtain ⟨c, n, HN⟩ : ∃ c n, Hid (G.nextL (q.extract i q.size).data.toList = (c, n)) := ⟨_, _, hid rfl⟩
  go_enter Tryd.func90, Tryd.ntmps90
  go_wp2_with fail
  refine (next_any _ c n w R.out.tabw.st (by simp; unfold maxLen; omega) HN).mono ?_
  rintro e w1 ⟨rfl, hb1⟩
  have R1 := hid (R.out.below hb1)
  clear hb1 c0 c1
  go_wp2
  go_loopw [4, 5, 6] (fun v4 v5 v6 W => ∃ (j f : Nat) (c : Int) (n : Nat), v4 = .int .i64 (j : Int) ∧ v5 = .int .i32 c ∧ v6 = .int .i64 (n : Int) ∧ i ≤ j ∧ j ≤ q.size ∧ Hid (G.nextL (q.extract j q.size).data.toList = (c, n)) ∧ Hid (q.size - j < f ∧ Q.nameEnd q i = j + Q.nameF f (q.data.toList.drop j)) ∧ Hid (QM w0 b q i V W)) (fun v4 _ _ _ => q.size - (intOf v4).toNat)
  case atStart => exact ⟨i, q.size + 1, c, n, rfl, rfl, rfl, Nat.le_refl _, hi, HN, hid ⟨by omega, rfl⟩, R1⟩
  case round =>
    obtain ⟨j, f, c, n, rfl, rfl, rfl, hij, hj, HC, HF, RJ⟩ := hrel
    cases hp : G.partB c with
    | true =>
      obtain ⟨f, rfl⟩ : ∃ g, f = g + 1 := ⟨f - 1, by have := HF.out.1; omega⟩
      have hc := HC.out
      rw [drop_eq] at hc
      obtain ⟨n0, n1, hF⟩ := Q.name_go (f := f) hc hp
      have n1' : j + n ≤ q.size := by simp at n1; omega
      have HF2 : Hid (q.size - (j + n) < f ∧ Q.nameEnd q i = (j + n) + Q.nameF f (q.data.toList.drop (j + n))) := hid ⟨by have := HF.out.1; omega, by rw [HF.out.2, hF, List.drop_drop]; omega⟩
      have HP := hid hp
      clear hc hF n1 hp HF
      go_wp2_with fail
      refine (part_any c _ RJ.out.tabw.st).mono ?_
      rw [HP.out]
      rintro e w2 ⟨rfl, hb2⟩
      have R2 := hid (RJ.out.below hb2)
      clear hb2
      have c0 := R2.out.c0
      obtain ⟨c', n', HN'⟩ : ∃ c' n', Hid (G.nextL (q.extract (j + n) q.size).data.toList = (c', n')) := ⟨_, _, hid rfl⟩
      have HJ : Hid (((j : Int) + (n : Int)) = ((j + n : Nat) : Int)) := hid (by omega)
      go_wp2_with fail
      refine (next_any _ c' n' w2 R2.out.tabw.st (by simp; unfold maxLen; omega) HN').mono ?_
      rintro e w3 ⟨rfl, hb3⟩
      have R3 := hid (R2.out.below hb3)
      clear hb3
      go_wp2
      go_roundw
      case rel => exact ⟨j + n, f, c', n', by go_num, rfl, rfl, by omega, n1', HN', HF2, R3⟩
      case measure => (simp [intOf]; try omega)
    | false =>
      have hc := HC.out
      rw [drop_eq] at hc
      have hE := HF.out.2
      rw [Q.name_no hc hp, Nat.add_zero] at hE
      have HP := hid hp
      have HE := hid hE
      clear hc hp hE HF
      go_wp2_with fail
      refine (part_any c _ RJ.out.tabw.st).mono ?_
      rw [HP.out]
      rintro e w2 ⟨rfl, hb2⟩
      have R2 := hid (RJ.out.below hb2)
      clear hb2
      have c0 := R2.out.c0
      have c1 := R2.out.c1
      go_wp2_with fail
      go_quiet (fail)
      have R3 := hid (R2.out.drewN nq)
      generalize w2.drewN nq = w3 at R3 ⊢
      clear R2 c0 c1
      cases hn : L.nameP (q.extract i j) with
      | true =>
        have HN2 := hid hn
        clear hn
        go_wp2_with fail
        refine (name_any _ true _ R3.out.tabw.st (by simp; unfold maxLen; omega) HN2).mono ?_
        rintro e w4 ⟨rfl, hb4⟩
        have R4 := hid (R3.out.below hb4)
        clear hb4
        have f1 := R4.out.frozen 1
        have c1 := R4.out.c1
        go_wp2
        go_ret2
        exact Or.inr ⟨q.extract i j, j, by unfold nameR; rw [HE.out, HN2.out]; rfl, hj, rfl, R4.out.set 1 _ (by go_num)⟩
      | false =>
        have HN2 := hid hn
        clear hn
        go_wp2_with fail
        refine (name_any _ false _ R3.out.tabw.st (by simp; unfold maxLen; omega) HN2).mono ?_
        rintro e w4 ⟨rfl, hb4⟩
        have R4 := hid (R3.out.below hb4)
        clear hb4
        go_wp2
        go_ret2
        exact Or.inl ⟨i, 70, _, by unfold nameR; rw [HE.out, HN2.out]; rfl, by decide, hi, rfl, ⟨_, rfl⟩, R4.out⟩
end
end Go.Proofs.YtmgemdhpjibdiaaDoor
namespace Go.Proofs.YtmgemdhpjibdiaaDoor
open Go.RowKit Go.Shelf Go.Sort
theorem ib_any (t : ByteArray) (c z : Int) (w : World) (H : Hid (Lib.indexByte t.data.toList c.toNat.toUInt8 = z)) : Calls Tryd.prog 120 #[.string t, .int .u8 c] w fun e w' => e = .returned (.int .i64 z) ∧ w' = w := by
  have h := indexByte_any t c w
  rw [H.out] at h
  exact h
theorem byte_self (c : UInt8) : ((c.toNat : Int)).toNat.toUInt8 = c := by simp
theorem index_run (c : UInt8) : ∀ (t : List UInt8), (c ∈ t → Lib.indexByte t c = ((t.takeWhile (L.notB c)).length : Int)) ∧ (c ∉ t → Lib.indexByte t c = -1 ∧ (t.takeWhile (L.notB c)).length = t.length)
  | [] => by simp [Lib.indexByte]
  | d :: t => by
    obtain ⟨h1, h2⟩ := index_run c t
    by_cases hd : d = c
    · subst hd
      simp [Lib.indexByte, L.notB]
    · have hn : L.notB c d = true := by simp [L.notB, hd]
      constructor
      · intro hm
        have hm' : c ∈ t := by rcases List.mem_cons.1 hm with q | q; exact absurd q.symm hd; exact q
        have := h1 hm'
        simp only [Lib.indexByte, hd, beq_iff_eq, if_false, List.takeWhile_cons_of_pos hn, List.length_cons]
        rw [this]
        simp
      · intro hm
        have hm' : c ∉ t := fun q => hm (List.mem_cons_of_mem _ q)
        obtain ⟨h3, h4⟩ := h2 hm'
        simp [Lib.indexByte, hd, h3, List.takeWhile_cons_of_pos hn, h4]
theorem find_run (s : ByteArray) (f : Nat) (hf : f ≤ s.size) (c : UInt8) : (Lib.indexByte (s.extract f s.size).data.toList c = ((L.runP (L.notB c) s f - f : Nat) : Int)) ∨ (Lib.indexByte (s.extract f s.size).data.toList c = -1 ∧ L.runP (L.notB c) s f = s.size) := by
  obtain ⟨h1, h2⟩ := index_run c (s.data.toList.drop f)
  rw [drop_eq]
  by_cases h : c ∈ s.data.toList.drop f
  · left
    rw [h1 h]
    unfold L.runP
    congr 1
    omega
  · right
    obtain ⟨h3, h4⟩ := h2 h
    refine ⟨h3, ?_⟩
    unfold L.runP
    rw [h4]
    simp
    omega
theorem L.undoF_place (v : Bool) : ∀ (f o : Nat) (acc l r : List UInt8) (k : Nat) (e : Int), E.undoF v f o acc l = (r, k, e) → k ≤ o + l.length
  | 0, o, acc, l, r, k, e, h => by
    simp only [E.undoF, Prod.mk.injEq] at h
    omega
  | f + 1, o, acc, l, r, k, e, h => by
    unfold E.undoF at h
    split at h
    · simp only [Prod.mk.injEq] at h; omega
    · split at h
      · simp only [Prod.mk.injEq] at h; omega
      · rename_i hs
        have := L.undoF_place v f _ _ _ r k e h
        have h2 := (E.step_ok v l (by simpa using hs)).2.1
        simp at this
        omega
theorem L.undo_place {v : Bool} {b u : ByteArray} {n : Nat} {e : Int} (h : L.undoB v b = (u, n, e)) : n ≤ b.size := by
  have : (E.undoL v b.data.toList).2.1 = n := by
    have := congrArg (fun x => x.2.1) h
    simpa [L.undoB] using this
  have h2 := L.undoF_place v (b.data.toList.length + 1) 0 [] b.data.toList (E.undoL v b.data.toList).1 n (E.undoL v b.data.toList).2.2 (by
    show E.undoL v b.data.toList = _
    rw [← this])
  simpa using h2
theorem L.undo_list {v : Bool} {b u : ByteArray} {n : Nat} {e : Int} (h : L.undoB v b = (u, n, e)) : E.undoL v b.data.toList = (u.data.toList, n, e) := by
  unfold L.undoB at h
  simp only [Prod.mk.injEq] at h
  obtain ⟨rfl, rfl, rfl⟩ := h
  simp
section
variable {w0 : World} {b : Nat} {q : ByteArray} {i : Nat} {V : Value} {w : World}
def valR (q : ByteArray) (i : Nat) : Except L.Bad (ByteArray × Nat) := if L.thereB q i [61] = false then .error ((i : Int), 70) else Q.valueQ q (i + 1)
theorem find_two (s : ByteArray) (f : Nat) (hf : f ≤ s.size) (c : UInt8) : (L.runP (L.notB c) s f < s.size ∧ Lib.indexByte (s.extract f s.size).data.toList c = ((L.runP (L.notB c) s f - f : Nat) : Int)) ∨ (Lib.indexByte (s.extract f s.size).data.toList c = -1 ∧ L.runP (L.notB c) s f = s.size) := by
  obtain ⟨h1, h2⟩ := index_run c (s.data.toList.drop f)
  rw [drop_eq]
  by_cases h : c ∈ s.data.toList.drop f
  · left
    refine ⟨?_, by rw [h1 h]; unfold L.runP; congr 1; omega⟩
    have hp := List.takeWhile_prefix (L.notB c) (l := s.data.toList.drop f)
    have hl : ((s.data.toList.drop f).takeWhile (L.notB c)).length ≠ (s.data.toList.drop f).length := by
      intro e
      have e2 := hp.eq_of_length e
      have := List.all_eq_true.1 (List.all_takeWhile (p := L.notB c) (l := s.data.toList.drop f)) c (by rw [e2]; exact h)
      simp [L.notB] at this
    have hl2 := hp.length_le
    simp only [List.length_drop, Array.length_toList, ByteArray.size_data] at hl hl2
    unfold L.runP
    omega
  · right
    obtain ⟨h3, h4⟩ := h2 h
    refine ⟨h3, ?_⟩
    unfold L.runP
    rw [h4]
    simp
    omega
theorem there1_lt {q : ByteArray} {i : Nat} {c : UInt8} (hi : i ≤ q.size) (h : L.thereB q i [c] = true) : i + 1 ≤ q.size := Q.there_le hi h
set_option maxRecDepth 100000 in
set_option maxHeartbeats 4000000 in
theorem qvalue_any (R : Hid (QM w0 b q i V w)) (hi : i ≤ q.size) (hz : q.size ≤ 1048576) (x : Bool) (HX : Hid (L.thereB q i [61] = x)) :
    Calls Tryd.prog 95 #[.pointer (some ⟨b, 0, none⟩)] w fun e w' => ResQ Value.string w0 b q V (valR q i) e w' := by
  cases x with
  | false =>
    have HR : Hid (valR q i = .error ((i : Int), 70)) := hid (by unfold valR; rw [HX.out]; rfl)
    have H0 : Hid (L.thereB q i (ByteArray.mk #[61]).data.toList = false) := HX
    clear HX
    go_enter Tryd.func95, Tryd.ntmps95
    go_wp2_with fail
    refine (must_no R hi ⟨#[61]⟩ H0).mono ?_
    rintro e w1 ⟨rfl, R1⟩
    have R1 := hid R1
    go_wp2
    go_ret2
    exact Or.inl ⟨i, 70, _, HR.out, by decide, hi, rfl, ⟨_, rfl⟩, R1.out⟩
  | true =>
    have h1 := there1_lt hi HX.out
    have H0 : Hid (L.thereB q i (ByteArray.mk #[61]).data.toList = true) := HX
    have HV : Hid (valR q i = Q.valueQ q (i + 1)) := hid (by unfold valR; rw [HX.out]; rfl)
    clear HX
    cases h2 : L.thereB q (i + 1) [34] with
    | false =>
      have HR : Hid (valR q i = .error (((i + 1 : Nat) : Int), 70)) := hid (by rw [HV.out]; unfold Q.valueQ; simp only; rw [if_pos h2])
      have H2 : Hid (L.thereB q (i + 1) (ByteArray.mk #[34]).data.toList = false) := hid h2
      clear h2 HV
      go_enter Tryd.func95, Tryd.ntmps95
      go_wp2_with fail
      refine (must_yes R hi hz ⟨#[61]⟩ H0).mono ?_
      rintro e w1 ⟨rfl, R1⟩
      have R1 : Hid (QM w0 b q (i + 1) V w1) := hid R1
      go_wp2_with fail
      refine (must_no R1 h1 ⟨#[34]⟩ H2).mono ?_
      rintro e w2 ⟨rfl, R2⟩
      have R2 := hid R2
      go_wp2
      go_ret2
      exact Or.inl ⟨i + 1, 70, _, HR.out, by decide, h1, rfl, ⟨_, rfl⟩, R2.out⟩
    | true =>
      have h3 : i + 1 + 1 ≤ q.size := there1_lt h1 h2
      have H2 : Hid (L.thereB q (i + 1) (ByteArray.mk #[34]).data.toList = true) := hid h2
      obtain ⟨f, HF⟩ : ∃ f, Hid (f = i + 1 + 1) := ⟨_, hid rfl⟩
      have hf : f ≤ q.size := by rw [HF.out]; exact h3
      have HV2 : Hid (valR q i = if q.size ≤ L.runP (L.notB 34) q f then .error (((L.runP (L.notB 34) q f : Nat) : Int), 70)
          else if (L.undoB true (q.extract f (L.runP (L.notB 34) q f))).2.2 ≠ 0 then .error (((f + (L.undoB true (q.extract f (L.runP (L.notB 34) q f))).2.1 : Nat) : Int), (L.undoB true (q.extract f (L.runP (L.notB 34) q f))).2.2)
          else .ok ((L.undoB true (q.extract f (L.runP (L.notB 34) q f))).1, L.runP (L.notB 34) q f + 1)) := hid (by rw [HV.out]; unfold Q.valueQ; simp only; rw [if_neg (by rw [h2]; simp), HF.out])
      clear h2 HV
      have ge := L.run_ge (L.notB 34) q f
      have le := L.run_le (p := L.notB 34) hf
      go_enter Tryd.func95, Tryd.ntmps95
      go_wp2_with fail
      refine (must_yes R hi hz ⟨#[61]⟩ H0).mono ?_
      rintro e w1 ⟨rfl, R1⟩
      have R1 : Hid (QM w0 b q (i + 1) V w1) := hid R1
      go_wp2_with fail
      refine (must_yes R1 h1 hz ⟨#[34]⟩ H2).mono ?_
      rintro e w2 ⟨rfl, R2⟩
      have R2 : Hid (QM w0 b q f V w2) := hid (by rw [HF.out]; exact R2)
      clear R1 R H0 H2 HF h3 h1
      have c0 := R2.out.c0
      have c1 := R2.out.c1
      rcases find_two q f hf 34 with ⟨hto, h⟩ | ⟨h, h'⟩
      · generalize L.runP (L.notB 34) q f = to at *
        have HY : Hid (Lib.indexByte (q.extract f q.size).data.toList ((34 : Int)).toNat.toUInt8 = ((to - f : Nat) : Int)) := hid h
        clear h
        obtain ⟨n, HQ⟩ : ∃ n : Nat, Hid (n = to - f) := ⟨_, hid rfl⟩
        have HTO : Hid (to = f + n) := hid (by rw [HQ.out]; omega)
        rw [← HQ.out] at HY
        have hn : f + n < q.size := by rw [← HTO.out]; exact hto
        have hn' : (f : Int) + n ≤ (q.size : Int) := by omega
        obtain ⟨u, un, ue, HU⟩ : ∃ u un ue, Hid (L.undoB true (q.extract f (f + n)) = (u, un, ue)) := ⟨_, _, _, hid rfl⟩
        have HUN : Hid (un ≤ n) := hid (by have := L.undo_place HU.out; simp at this; omega)
        have HV3 : Hid (valR q i = if ue ≠ 0 then .error (((f + un : Nat) : Int), ue) else .ok (u, f + n + 1)) := hid (by
          have h := HV2.out
          rw [if_neg (by omega)] at h
          rw [h, HTO.out, HU.out])
        have UC : Hid (∀ d os, Calls Tryd.prog 121 #[.string (q.extract f (f + n)), .bool true] (grow (redrawn w2 d) os) fun e w'' => e = .returned (.tuple #[.string u, .int .i64 (un : Int), .int .i64 ue]) ∧ ∃ p : Regrown, w'' = grow (redrawn w2 p.d) p.os) := hid (fun d os => Calls.regrown_of (undo_any _ true u un ue _ (R2.out.tabw.st.below (below_regrown w2 d os)) (by simp; omega) (hid (L.undo_list HU.out))))
        clear HQ HV2 HU hto ge le
        clear HTO
        go_wp2_with fail
        go_quiet (first | (go_at_call 120; refine Calls.quiet_of_same (ib_any _ _ (n : Int) _ HY)))
        have R3 := hid (R2.out.drewN nq)
        have UC2 : Hid (∀ d os, Calls Tryd.prog 121 #[.string (q.extract f (f + n)), .bool true] (grow (redrawn (w2.drewN nq) d) os) fun e w'' => e = .returned (.tuple #[.string u, .int .i64 (un : Int), .int .i64 ue]) ∧ ∃ p : Regrown, w'' = grow (redrawn (w2.drewN nq) p.d) p.os) := hid (fun d os => UC.out d os)
        clear UC HY c0 c1
        generalize w2.drewN nq = w3 at R3 UC2 ⊢
        have D0 := cell_regrown R3.out.c0
        have D1 := cell_regrown R3.out.c1
        go_wp2_with fail
        refine wp_region_quiet_below (by kernel_rfl) (by kernel_rfl) ?_
        repeat (first | go_big_quiet_step (exact UC2.out _ _) | quiet_step (exact UC2.out _ _))
        refine wpQuiet_nil ?_
        rintro _ ⟨⟨dq, osq⟩, rfl⟩
        have R4 := hid (R3.out.below (below_regrown w3 dq osq))
        clear D0 D1 UC2
        generalize grow (redrawn w3 dq) osq = w4 at *
        have c1 := R4.out.c1
        have f1 := R4.out.frozen 1
        have hun := HUN.out
        by_cases hue : ue = 0
        · subst hue
          have HR : Hid (valR q i = .ok (u, f + n + 1)) := hid HV3.out
          go_wp2
          go_ret2
          exact Or.inr ⟨u, f + n + 1, HR.out, by omega, rfl, R4.out.set 1 _ (by go_num)⟩
        · have hue' : (ue == 0) = false := beq_eq_false_iff_ne.2 hue
          have HR : Hid (valR q i = .error (((f + un : Nat) : Int), ue) ∧ ue ≠ 0) := hid ⟨by rw [HV3.out, if_pos hue], hue⟩
          clear hue
          go_wp2
          go_ret2
          exact Or.inl ⟨f + un, ue, _, HR.out.1, HR.out.2, by omega, rfl, ⟨_, rfl⟩, R4.out.set 1 _ (by go_num)⟩
      · have HY : Hid (Lib.indexByte (q.extract f q.size).data.toList ((34 : Int)).toNat.toUInt8 = -1) := hid h
        have HR : Hid (valR q i = .error (((q.size : Nat) : Int), 70)) := hid (by rw [HV2.out, h', if_pos (Nat.le_refl _)])
        clear h h' HV2 ge le
        go_wp2_with fail
        go_quiet (first | (go_at_call 120; refine Calls.quiet_of_same (ib_any _ _ (-1) _ HY)))
        have R3 := hid (R2.out.drewN nq)
        generalize w2.drewN nq = w3 at R3 ⊢
        have c0 := R3.out.c0
        have c1 := R3.out.c1
        have f1 := R3.out.frozen 1
        go_wp2
        go_ret2
        exact Or.inl ⟨q.size, 70, _, HR.out, by decide, Nat.le_refl _, rfl, ⟨_, rfl⟩, R3.out.set 1 _ (by go_num)⟩
end
end Go.Proofs.YtmgemdhpjibdiaaDoor
namespace Go.Proofs.YtmgemdhpjibdiaaDoor
open Go.RowKit Go.Shelf Go.Sort
def predV (p : Q.Pred) : Value := .agg #[.int .i64 p.kind, .int .i64 p.num, .string p.name, .string p.value]
def predObj (p : Q.Pred) : Obj := .cells #[.int .i64 p.kind, .int .i64 p.num, .string p.name, .string p.value] 86 (0, 0)
section
variable {w0 : World} {b : Nat} {q : ByteArray} {i : Nat} {V : Value} {w : World}
/-- A store elsewhere, into what is newer. -/
theorem QM.other (h : QM w0 b q i V w) (c j : Nat) (hc : c ≠ b) (hn : w0.heap.size ≤ c) (u : Value) : QM w0 b q i V (w.setCell ⟨c, j, none⟩ u) :=
  ⟨h.tab, h.far, h.lo, ⟨h.gr.os, h.gr.tape, h.gr.output, by simpa using h.gr.size, fun k hk hr => by rw [heap_setCell_other w ⟨c, j, none⟩ k u (by show k ≠ c; omega)]; exact h.gr.block k hk hr⟩,
    by rw [heap_setCell_other w ⟨c, j, none⟩ b u (fun e => hc e.symm)]; exact h.obj⟩
theorem QM.size_le (h : QM w0 b q i V w) : w0.heap.size ≤ w.heap.size := h.gr.size
/-- What lies in another block still lies there. -/
theorem QM.stays (h : QM w0 b q i V w) {c : Nat} {o : Obj} (ho : w0.heap[c]? = some o) (hc : c ≠ b) : w.heap[c]? = some o := (h.gr.block c (lt_of_block ho) (by simpa using hc)).trans ho
theorem pred_cells {w : World} {c : Nat} {p : Q.Pred} (h : w.heap[c]? = some (predObj p)) : w.cell? ⟨c, 0, none⟩ = some (.int .i64 p.kind) ∧ w.cell? ⟨c, 1, none⟩ = some (.int .i64 p.num) ∧ w.cell? ⟨c, 2, none⟩ = some (.string p.name) ∧ w.cell? ⟨c, 3, none⟩ = some (.string p.value) :=
  ⟨cell_of_row w c 0 _ _ _ h, cell_of_row w c 1 _ _ _ h, cell_of_row w c 2 _ _ _ h, cell_of_row w c 3 _ _ _ h⟩
theorem pred_frozen {w : World} {c : Nat} {p : Q.Pred} (h : w.heap[c]? = some (predObj p)) (j : Nat) : w.frozen? ⟨c, j, none⟩ = false := frozen_of_row w c j _ _ h
theorem pred_set {w : World} {c : Nat} {p : Q.Pred} (h : w.heap[c]? = some (predObj p)) (j : Nat) (u : Value) {p' : Q.Pred} (e : (#[Value.int .i64 p.kind, .int .i64 p.num, .string p.name, .string p.value].setIfInBounds j u) = #[Value.int .i64 p'.kind, .int .i64 p'.num, .string p'.name, .string p'.value]) : (w.setCell ⟨c, j, none⟩ u).heap[c]? = some (predObj p') := by
  rw [heap_setCell_same w c j _ _ u h, e]
  rfl
def attR (q : ByteArray) (i : Nat) : Except L.Bad (Q.Pred × Nat) := match nameR q i with
  | .error e => .error e
  | .ok (nm, n) => if L.thereB q n [61] = false then .ok (⟨3, 0, nm, L.noB⟩, n) else match valR q n with
    | .error e => .error e
    | .ok (v, k) => .ok (⟨4, 0, nm, v⟩, k)
set_option maxRecDepth 100000 in
set_option maxHeartbeats 4000000 in
theorem attribute_any (R : Hid (QM w0 b q i V w)) (hi : i ≤ q.size) (hz : q.size ≤ 1048576) (res : Except L.Bad (Q.Pred × Nat)) (HR : Hid (attR q i = res)) :
    Calls Tryd.prog 94 #[.pointer (some ⟨b, 0, none⟩)] w fun e w' => ResQ predV w0 b q V res e w' := by
  have hB : w.heap.size ≠ b := by have := R.out.lt; omega
  have R1 := hid (R.out.new (predObj ⟨3, 0, L.noB, L.noB⟩))
  have P1 : Hid ((w.alloc (predObj ⟨3, 0, L.noB, L.noB⟩)).heap[w.heap.size]? = some (predObj ⟨3, 0, L.noB, L.noB⟩)) := hid (heap_alloc_new w _)
  have HB : Hid (w0.heap.size ≤ w.heap.size) := hid R.out.size_le
  go_enter Tryd.func94, Tryd.ntmps94
  go_wp2_with fail
  refine Calls.mono (qname_any (hid R1.out.here) hi hz) ?_
  have hw1 : w.heap.size ≠ (w.alloc (predObj ⟨3, 0, L.noB, L.noB⟩)).heap.size := by simp
  show ∀ e w', _ → _
  intro e w2 hres
  clear hw1
  generalize (w.alloc (predObj ⟨3, 0, L.noB, L.noB⟩)) = w1 at *
  generalize w.heap.size = B at *
  rcases hres with ⟨z, e0, u, h1, h2, h3, rfl, ⟨nm, rfl⟩, R2⟩ | ⟨nm, n, h1, h3, rfl, R2⟩
  · have HR2 : Hid (res = .error ((z : Int), e0)) := hid (by rw [← HR.out]; unfold attR; rw [h1])
    have c2 := pred_cells (R2.stays P1.out hB)
    have f2 := pred_frozen (R2.stays P1.out hB)
    have R3 := hid ((R1.out.since R2).other B 2 hB HB.out (.string nm))
    have P3 := hid (pred_set (R2.stays P1.out hB) 2 (.string nm) (p' := ⟨3, 0, nm, L.noB⟩) rfl)
    obtain ⟨d0, d1, d2, d3⟩ := c2
    have g0 := f2 0
    have g1 := f2 1
    have g2 := f2 2
    have g3 := f2 3
    have b0 : (e0 == 0) = false := beq_eq_false_iff_ne.2 h2
    simp only at d0 d1 d2 d3
    clear P1 R1 f2
    go_wp2
    (try simp only [Exit.inBlock, Exit.then])
    refine bodyPost_ret (v := .tuple #[predV ⟨3, 0, nm, L.noB⟩, .int .i64 e0]) ?_ rfl ?_
    · rw [results_cell_tmp rfl]
      unfold predV
      go_simp
    · exact Or.inl ⟨z, e0, _, HR2.out, h2, h3, rfl, ⟨_, rfl⟩, (((R3.out.other B 0 hB HB.out _).other B 1 hB HB.out _).other B 2 hB HB.out _).other B 3 hB HB.out _⟩
  · have c2 := pred_cells (R2.stays P1.out hB)
    have f2 := pred_frozen (R2.stays P1.out hB)
    have R3 := hid ((R1.out.since R2).other B 2 hB HB.out (.string nm))
    have P3 := hid (pred_set (R2.stays P1.out hB) 2 (.string nm) (p' := ⟨3, 0, nm, L.noB⟩) rfl)
    obtain ⟨d0, d1, d2, d3⟩ := c2
    have g0 := f2 0
    have g1 := f2 1
    have g2 := f2 2
    have g3 := f2 3
    simp only at d0 d1 d2 d3
    clear P1 R1 f2
    cases hx : L.thereB q n [61] with
    | false =>
      have HR2 : Hid (res = .ok (⟨3, 0, nm, L.noB⟩, n)) := hid (by rw [← HR.out]; unfold attR; rw [h1]; simp only; rw [hx]; rfl)
      have HX : Hid (L.thereB q n (ByteArray.mk #[61]).data.toList = false) := hid hx
      clear hx h1 HR
      go_wp2_with fail
      refine Calls.mono (sees_any R3 h3 ⟨#[61]⟩ _ HX) ?_
      rintro e w3 ⟨rfl, m, rfl⟩
      go_wp2
      (try simp only [Exit.inBlock, Exit.then])
      refine bodyPost_ret (v := .tuple #[predV ⟨3, 0, nm, L.noB⟩, .int .i64 0]) ?_ rfl ?_
      · rw [results_cell_tmp rfl]
        unfold predV
        go_simp
      · exact Or.inr ⟨_, n, HR2.out, h3, rfl, ((((R3.out.drewN m).other B 0 hB HB.out _).other B 1 hB HB.out _).other B 2 hB HB.out _).other B 3 hB HB.out _⟩
    | true =>
      have HR2 : Hid (res = match valR q n with | .error e => .error e | .ok (v, k) => .ok (⟨4, 0, nm, v⟩, k)) := hid (by rw [← HR.out]; unfold attR; rw [h1]; simp only; rw [if_neg (by rw [hx]; simp)])
      have HX : Hid (L.thereB q n (ByteArray.mk #[61]).data.toList = true) := hid hx
      have HX1 := hid hx
      clear hx h1 HR
      go_wp2_with fail
      refine Calls.mono (sees_any R3 h3 ⟨#[61]⟩ _ HX) ?_
      rintro e w3 ⟨rfl, m, rfl⟩
      have R4 := (R3.out.drewN m).other B 0 hB HB.out (.int .i64 4)
      have P4 := pred_set (w := (w2.setCell ⟨B, 2, none⟩ (.string nm)).drewN m) P3.out 0 (.int .i64 4) (p' := ⟨4, 0, nm, L.noB⟩) rfl
      go_wp2_with fail
      generalize ((w2.setCell ⟨B, 2, none⟩ (.string nm)).drewN m).setCell ⟨B, 0, none⟩ (.int .i64 4) = w4 at *
      refine Calls.mono (qvalue_any (hid R4.here) h3 hz true HX1) ?_
      show ∀ e w', _ → _
      intro e w5 hres
      rcases hres with ⟨z, e0, u, h1, h2, h4, rfl, ⟨vv, rfl⟩, R5⟩ | ⟨vv, k, h1, h4, rfl, R5⟩
      · have HR3 : Hid (res = .error ((z : Int), e0)) := hid (by rw [HR2.out, h1])
        obtain ⟨d0, d1, d2, d3⟩ := pred_cells (R5.stays P4 hB)
        have g0 := pred_frozen (R5.stays P4 hB) 0
        have g1 := pred_frozen (R5.stays P4 hB) 1
        have g2 := pred_frozen (R5.stays P4 hB) 2
        have g3 := pred_frozen (R5.stays P4 hB) 3
        have R6 := hid ((R4.since R5).other B 3 hB HB.out (.string vv))
        have H2 := hid h2
        have b0 : (e0 == 0) = false := beq_eq_false_iff_ne.2 h2
        simp only at d0 d1 d2 d3
        clear h1 R5 R4 P4 HR2 h2
        go_wp2
        (try simp only [Exit.inBlock, Exit.then])
        refine bodyPost_ret (v := .tuple #[predV ⟨4, 0, nm, vv⟩, .int .i64 e0]) ?_ rfl ?_
        · rw [results_cell_tmp rfl]
          unfold predV
          go_simp
        · exact Or.inl ⟨z, e0, _, HR3.out, H2.out, h4, rfl, ⟨_, rfl⟩, (((R6.out.other B 0 hB HB.out _).other B 1 hB HB.out _).other B 2 hB HB.out _).other B 3 hB HB.out _⟩
      · have HR3 : Hid (res = .ok (⟨4, 0, nm, vv⟩, k)) := hid (by rw [HR2.out, h1])
        obtain ⟨d0, d1, d2, d3⟩ := pred_cells (R5.stays P4 hB)
        have g0 := pred_frozen (R5.stays P4 hB) 0
        have g1 := pred_frozen (R5.stays P4 hB) 1
        have g2 := pred_frozen (R5.stays P4 hB) 2
        have g3 := pred_frozen (R5.stays P4 hB) 3
        have R6 := hid ((R4.since R5).other B 3 hB HB.out (.string vv))
        simp only at d0 d1 d2 d3
        clear h1 R5 R4 P4 HR2
        go_wp2
        (try simp only [Exit.inBlock, Exit.then])
        refine bodyPost_ret (v := .tuple #[predV ⟨4, 0, nm, vv⟩, .int .i64 0]) ?_ rfl ?_
        · rw [results_cell_tmp rfl]
          unfold predV
          go_simp
        · exact Or.inr ⟨_, k, HR3.out, h4, rfl, (((R6.out.other B 0 hB HB.out _).other B 1 hB HB.out _).other B 2 hB HB.out _).other B 3 hB HB.out _⟩
end
end Go.Proofs.YtmgemdhpjibdiaaDoor
namespace Go.Proofs.YtmgemdhpjibdiaaDoor
open Go.RowKit Go.Shelf Go.Sort
namespace Q
/-- The axes from number k on. -/
def axesFrom (k : Nat) : List (Int × List UInt8) := axes.drop (k - 1)
theorem axes_at (k : Nat) (h1 : 1 ≤ k) (h2 : k ≤ 8) : axesFrom k = ((k : Int), axisW (k : Int)) :: axesFrom (k + 1) := by
  have : k = 1 ∨ k = 2 ∨ k = 3 ∨ k = 4 ∨ k = 5 ∨ k = 6 ∨ k = 7 ∨ k = 8 := by omega
  rcases this with rfl | rfl | rfl | rfl | rfl | rfl | rfl | rfl <;> rfl
theorem axes_end : axesFrom 9 = [] := rfl
theorem axis_cons (q : ByteArray) (i : Nat) (a : Int × List UInt8) (l : List (Int × List UInt8)) : axisF q i (a :: l) = if L.thereB q i a.2 = true then (a.1, i + a.2.length) else axisF q i l := rfl
end Q
/-- What a step under way is in memory. -/
def stepObj (ax te : Int) (nm : ByteArray) (v : Value) : Obj := .cells #[.int .i64 ax, .int .i64 te, .string nm, v] 78 (0, 0)
section
variable {w0 : World} {b : Nat} {q : ByteArray} {i : Nat} {V : Value} {w : World}
theorem bA_self' (l : List UInt8) : (S.bA l).data.toList = l := rfl
set_option maxRecDepth 100000 in
set_option maxHeartbeats 4000000 in
theorem axis_any (R : Hid (QM w0 b q i V w)) (hi : i ≤ q.size) (hz : q.size ≤ 1048576) (ax : Int) (n : Nat) (HA : Hid (Q.axisF q i Q.axes = (ax, n))) :
    Calls Tryd.prog 60 #[.pointer (some ⟨b, 0, none⟩)] w fun e w' => e = .returned (.int .i64 ax) ∧ QM w0 b q n V w' := by
  go_enter Tryd.func60, Tryd.ntmps60
  go_wp2
  go_loopw [3] (fun v3 W => ∃ k : Nat, v3 = .int .i64 (k : Int) ∧ 1 ≤ k ∧ k ≤ 9 ∧ Hid (Q.axisF q i (Q.axesFrom k) = (ax, n)) ∧ Hid (QM w0 b q i V W)) (fun v3 _ => 9 - (intOf v3).toNat)
  case atStart => exact ⟨1, rfl, by omega, by omega, HA, R⟩
  case round =>
    obtain ⟨k, rfl, k1, k9, HK, RK⟩ := hrel
    by_cases h : k ≤ 8
    · have h' : (k : Int) ≤ 8 := by omega
      have a0 := RK.out.tabw.ax k (by omega)
      have hE := HK.out
      rw [Q.axes_at k k1 h, Q.axis_cons] at hE
      simp only at hE
      generalize Q.axisW (k : Int) = aw at *
      cases hx : L.thereB q i aw with
      | true =>
        rw [hx] at hE
        simp only [if_true, Prod.mk.injEq] at hE
        obtain ⟨rfl, rfl⟩ := hE
        have HX : Hid (L.thereB q i (S.bA aw).data.toList = true) := hid hx
        clear hx HK HA
        go_wp2_with fail
        refine (passes_yes RK hi hz (S.bA aw) HX).mono ?_
        rintro e w1 ⟨rfl, R1⟩
        have R1 := hid R1
        go_wp2
        go_ret
        exact ⟨rfl, by rw [S.bA_size] at R1; exact R1.out⟩
      | false =>
        rw [hx, if_neg (by simp)] at hE
        have HE := hid hE
        have HX : Hid (L.thereB q i (S.bA aw).data.toList = false) := hid hx
        clear hx HK hE
        go_wp2_with fail
        refine (passes_no RK hi (S.bA aw) HX).mono ?_
        rintro e w1 ⟨rfl, R1⟩
        have R1 := hid R1
        go_wp2
        go_roundw
        case rel => exact ⟨k + 1, by go_num, by omega, by omega, HE, R1⟩
        case measure => (simp [intOf]; try omega)
    · obtain rfl : k = 9 := by omega
      have hE := HK.out
      rw [Q.axes_end] at hE
      unfold Q.axisF at hE
      simp only [Prod.mk.injEq] at hE
      obtain ⟨rfl, rfl⟩ := hE
      clear HK HA
      go_wp2
      go_ret
      exact ⟨rfl, RK.out⟩
end
end Go.Proofs.YtmgemdhpjibdiaaDoor
namespace Go.Proofs.YtmgemdhpjibdiaaDoor
open Go.RowKit Go.Shelf Go.Sort
namespace Q
def testF (q : ByteArray) (i : Nat) : List Int → Except L.Bad ((Int × ByteArray) × Nat)
  | [] => match nameR q i with
    | .error e => .error e
    | .ok (nm, n) => .ok ((1, nm), n)
  | t :: l => if L.thereB q i (testW t) = true then .ok ((t, L.noB), i + (testW t).length) else testF q i l
def testsFrom (k : Nat) : List Int := [2, 3, 4].drop (k - 2)
theorem tests_at (k : Nat) (h1 : 2 ≤ k) (h2 : k ≤ 4) : testsFrom k = (k : Int) :: testsFrom (k + 1) := by
  have : k = 2 ∨ k = 3 ∨ k = 4 := by omega
  rcases this with rfl | rfl | rfl <;> rfl
theorem tests_end : testsFrom 5 = [] := rfl
theorem tested_test (q : ByteArray) (i : Nat) (ax : Int) : testedQ q i ax = match testF q i [2, 3, 4] with
    | .error e => .error e
    | .ok (a, n) => predsQ q n ⟨ax, a.1, a.2, []⟩ := by
  unfold testedQ testF
  rw [show testW 2 = [42] from rfl]
  split
  · rfl
  · unfold testF
    rw [show testW 3 = textW from rfl]
    split
    · rfl
    · unfold testF
      rw [show testW 4 = nodeW from rfl]
      split
      · rfl
      · unfold testF nameR
        simp only
        split <;> rfl
end Q
theorem step_cells {w : World} {c : Nat} {ax te : Int} {nm : ByteArray} {v : Value} (h : w.heap[c]? = some (stepObj ax te nm v)) : w.cell? ⟨c, 0, none⟩ = some (.int .i64 ax) ∧ w.cell? ⟨c, 1, none⟩ = some (.int .i64 te) ∧ w.cell? ⟨c, 2, none⟩ = some (.string nm) ∧ w.cell? ⟨c, 3, none⟩ = some v :=
  ⟨cell_of_row w c 0 _ _ _ h, cell_of_row w c 1 _ _ _ h, cell_of_row w c 2 _ _ _ h, cell_of_row w c 3 _ _ _ h⟩
theorem step_frozen {w : World} {c : Nat} {ax te : Int} {nm : ByteArray} {v : Value} (h : w.heap[c]? = some (stepObj ax te nm v)) (j : Nat) : w.frozen? ⟨c, j, none⟩ = false := frozen_of_row w c j _ _ h
theorem step_set {w : World} {c : Nat} {ax te : Int} {nm : ByteArray} {v : Value} (h : w.heap[c]? = some (stepObj ax te nm v)) (j : Nat) (u : Value) {ax' te' : Int} {nm' : ByteArray} {v' : Value} (e : (#[Value.int .i64 ax, .int .i64 te, .string nm, v].setIfInBounds j u) = #[Value.int .i64 ax', .int .i64 te', .string nm', v']) : (w.setCell ⟨c, j, none⟩ u).heap[c]? = some (stepObj ax' te' nm' v') := by
  rw [heap_setCell_same w c j _ _ u h, e]
  rfl
section
variable {w0 : World} {b : Nat} {q : ByteArray} {i : Nat} {V : Value} {w : World}
/-- What a step's test leaves behind. -/
def TestPost (w0 : World) (b c : Nat) (q : ByteArray) (V : Value) (ax : Int) (v : Value) (res : Except L.Bad ((Int × ByteArray) × Nat)) (e : Ending) (w' : World) : Prop :=
  (∃ (z : Nat) (e0 te : Int) (nm : ByteArray), res = .error ((z : Int), e0) ∧ e0 ≠ 0 ∧ z ≤ q.size ∧ e = .returned (.int .i64 e0) ∧ QM w0 b q z V w' ∧ w'.heap[c]? = some (stepObj ax te nm v)) ∨
  (∃ (a : Int × ByteArray) (n : Nat), res = .ok (a, n) ∧ n ≤ q.size ∧ e = .returned (.int .i64 0) ∧ QM w0 b q n V w' ∧ w'.heap[c]? = some (stepObj ax a.1 a.2 v))
set_option maxRecDepth 100000 in
set_option maxHeartbeats 4000000 in
theorem test_any (R : Hid (QM w0 b q i V w)) (hi : i ≤ q.size) (hz : q.size ≤ 1048576) (c : Nat) (hcb : c ≠ b) (hc0 : Hid (w0.heap.size ≤ c)) (ax : Int) (v : Value) (HS : Hid (w.heap[c]? = some (stepObj ax 0 L.noB v))) (res : Except L.Bad ((Int × ByteArray) × Nat)) (HA : Hid (Q.testF q i [2, 3, 4] = res)) :
    Calls Tryd.prog 61 #[.pointer (some ⟨b, 0, none⟩), .pointer (some ⟨c, 0, none⟩)] w fun e w' => TestPost w0 b c q V ax v res e w' := by
  go_enter Tryd.func61, Tryd.ntmps61
  go_wp2
  go_loopw [5] (fun v5 W => ∃ k : Nat, v5 = .int .i64 (k : Int) ∧ 2 ≤ k ∧ k ≤ 5 ∧ Hid (Q.testF q i (Q.testsFrom k) = res) ∧ Hid (QM w0 b q i V W) ∧ Hid (W.heap[c]? = some (stepObj ax 0 L.noB v))) (fun v5 _ => 5 - (intOf v5).toNat)
  case atStart => exact ⟨2, rfl, by omega, by omega, HA, R, HS⟩
  case round =>
    obtain ⟨k, rfl, k1, k9, HK, RK, HC⟩ := hrel
    by_cases h : k ≤ 4
    · have h' : (k : Int) ≤ 4 := by omega
      have a0 := RK.out.tabw.te k (by omega)
      have hE := HK.out
      rw [Q.tests_at k k1 h] at hE
      unfold Q.testF at hE
      generalize HAW : Q.testW (k : Int) = aw at *
      have HAW := hid HAW
      cases hx : L.thereB q i aw with
      | true =>
        rw [hx] at hE
        simp only [if_true] at hE
        have HE := hid hE.symm
        have HX : Hid (L.thereB q i (S.bA aw).data.toList = true) := hid hx
        have hle : i + aw.length ≤ q.size := Q.there_le hi hx
        clear hx HK HA hE
        go_wp2_with fail
        refine (passes_yes (hid RK.out.here) hi hz (S.bA aw) HX).mono ?_
        rintro e w1 ⟨rfl, R1⟩
        have HC1 := R1.stays HC.out hcb
        rw [S.bA_size] at R1
        have R2 := hid (RK.out.since R1)
        obtain ⟨d0, d1, d2, d3⟩ := step_cells HC1
        have g1 := step_frozen HC1 1
        have HC2 := hid HC1
        clear R1 HC1 a0
        go_wp2
        go_ret
        exact Or.inr ⟨_, _, HE.out, hle, rfl, R2.out.other c 1 hcb hc0.out _, step_set HC2.out 1 _ rfl⟩
      | false =>
        rw [hx, if_neg (by simp)] at hE
        have HE := hid hE
        have HX : Hid (L.thereB q i (S.bA aw).data.toList = false) := hid hx
        clear hx HK hE
        go_wp2_with fail
        refine (passes_no (hid RK.out.here) hi (S.bA aw) HX).mono ?_
        rintro e w1 ⟨rfl, R1⟩
        have HC2 := hid (R1.stays HC.out hcb)
        have R2 := hid (RK.out.since R1)
        clear R1
        go_wp2
        go_roundw
        case rel => exact ⟨k + 1, by go_num, by omega, by omega, HE, R2, HC2⟩
        case measure => (simp [intOf]; try omega)
    · obtain rfl : k = 5 := by omega
      have hE := HK.out
      rw [Q.tests_end] at hE
      unfold Q.testF at hE
      have HE := hid hE
      obtain ⟨d0, d1, d2, d3⟩ := step_cells HC.out
      have g1 := step_frozen HC.out 1
      have R2 := hid (RK.out.other c 1 hcb hc0.out (.int .i64 1))
      have HC2 := step_set HC.out 1 (.int .i64 1) (te' := 1) rfl
      clear HK HA hE
      go_wp2_with fail
      generalize wr.setCell ⟨c, 1, none⟩ (.int .i64 1) = w1 at *
      refine Calls.mono (qname_any (hid R2.out.here) hi hz) ?_
      show ∀ e w', _ → _
      intro e w2 hres
      rcases hres with ⟨z, e0, u, h1, h2, h3, rfl, ⟨nm, rfl⟩, R3⟩ | ⟨nm, n, h1, h3, rfl, R3⟩
      · obtain ⟨d0, d1, d2, d3⟩ := step_cells (R3.stays HC2 hcb)
        have g2 := step_frozen (R3.stays HC2 hcb) 2
        have HC3 := hid (step_set (R3.stays HC2 hcb) 2 (.string nm) (nm' := nm) rfl)
        have R4 := hid ((R2.out.since R3).other c 2 hcb hc0.out (.string nm))
        have HE2 : Hid (res = .error ((z : Int), e0) ∧ e0 ≠ 0) := hid ⟨by rw [← HE.out, h1], h2⟩
        clear HE h1 h2 R3 HC2
        go_wp2
        go_ret
        exact Or.inl ⟨z, e0, _, _, HE2.out.1, HE2.out.2, h3, rfl, R4.out, HC3.out⟩
      · obtain ⟨d0, d1, d2, d3⟩ := step_cells (R3.stays HC2 hcb)
        have g2 := step_frozen (R3.stays HC2 hcb) 2
        have HC3 := hid (step_set (R3.stays HC2 hcb) 2 (.string nm) (nm' := nm) rfl)
        have R4 := hid ((R2.out.since R3).other c 2 hcb hc0.out (.string nm))
        have HE2 : Hid (res = .ok ((1, nm), n)) := hid (by rw [← HE.out, h1])
        clear HE h1 R3 HC2
        go_wp2
        go_ret
        exact Or.inr ⟨_, _, HE2.out, h3, rfl, R4.out, HC3.out⟩
end
end Go.Proofs.YtmgemdhpjibdiaaDoor
namespace Go.Proofs.YtmgemdhpjibdiaaDoor
namespace Q
theorem there_head {q : ByteArray} {j : Nat} {c : UInt8} {t : List UInt8} (h : L.thereB q j (c :: t) = true) : ∃ hj : j < q.size, q[j] = c := by
  unfold L.thereB at h
  by_cases hj : j < q.size
  · rw [L.drop_at q j hj] at h
    simp only [List.isPrefixOf, Bool.and_eq_true, beq_iff_eq] at h
    exact ⟨hj, h.1.symm⟩
  · rw [L.drop_end q j (by omega)] at h
    cases h
theorem there_apart {q : ByteArray} {j : Nat} {c d : UInt8} {t u : List UInt8} (h : L.thereB q j (c :: t) = true) (hcd : c ≠ d) : L.thereB q j (d :: u) = false := by
  cases hx : L.thereB q j (d :: u) with
  | false => rfl
  | true =>
    obtain ⟨h1, e1⟩ := there_head h
    obtain ⟨h2, e2⟩ := there_head hx
    exact absurd (e1.symm.trans e2) hcd
theorem digits_apart {q : ByteArray} {j : Nat} {d : UInt8} {u : List UInt8} (h : L.runP digitB q j ≠ j) (hd : digitB d = false) : L.thereB q j (d :: u) = false := by
  cases hx : L.thereB q j (d :: u) with
  | false => rfl
  | true =>
    exfalso
    obtain ⟨h2, e2⟩ := there_head hx
    apply h
    exact L.run_no h2 (by rw [e2]; exact hd)
def predR (q : ByteArray) (j : Nat) : Except L.Bad (Pred × Nat) :=
  if L.runP digitB q j ≠ j then (match numR q j (L.runP digitB q j) with
    | .error e => .error e
    | .ok (x, n) => .ok (⟨1, x, L.noB, L.noB⟩, n))
  else if L.thereB q j lastW = true then .ok (⟨2, 0, L.noB, L.noB⟩, j + 6)
  else if L.thereB q j [64] = true then attR q (j + 1)
  else if L.thereB q j textW = true then (match valR q (j + 6) with
    | .error e => .error e
    | .ok (v, n) => .ok (⟨5, 0, L.noB, v⟩, n))
  else .error ((j : Int), 70)
theorem pred_shape (q : ByteArray) (j : Nat) : predQ q j = predR q j := by
  unfold predR predQ
  by_cases hd : L.runP digitB q j = j
  · rw [if_neg (show ¬ (L.runP digitB q j ≠ j) from fun h => h hd)]
    by_cases h1 : L.thereB q j lastW = true
    · rw [if_pos h1, if_pos h1]
    · rw [if_neg h1, if_neg h1]
      by_cases h2 : L.thereB q j textW = true
      · have h3 : L.thereB q j [64] = false := there_apart (u := []) h2 (by decide)
        rw [if_pos h2, if_neg (show ¬ (L.thereB q j [64] = true) by rw [h3]; simp), if_pos h2]
        unfold valR
        split
        · rfl
        · rfl
      · rw [if_neg h2]
        by_cases h3 : L.thereB q j [64] = true
        · rw [if_neg (show ¬ (L.thereB q j [64] = false) by rw [h3]; simp), if_pos h3]
          unfold attR nameR
          simp only
          by_cases h4 : L.nameP (q.extract (j + 1) (nameEnd q (j + 1))) = false
          · rw [if_pos h4, if_pos h4]
          · rw [if_neg h4, if_neg h4]
            simp only
            by_cases h5 : L.thereB q (nameEnd q (j + 1)) [61] = false
            · rw [if_pos h5, if_pos h5]
            · rw [if_neg h5, if_neg h5]
              unfold valR
              rw [if_neg h5]
              cases valueQ q (nameEnd q (j + 1) + 1) <;> rfl
        · have h3' : L.thereB q j [64] = false := by simpa using h3
          rw [if_pos h3', if_neg h3, if_neg h2]
          unfold numberQ
          simp only
          rw [if_pos (Or.inl hd)]
  · rw [if_pos (show L.runP digitB q j ≠ j from hd), if_neg (show ¬ (L.thereB q j lastW = true) by rw [show lastW = 108 :: [97, 115, 116, 40, 41] from rfl, digits_apart hd (by decide)]; simp), if_neg (show ¬ (L.thereB q j textW = true) by rw [show textW = 116 :: [101, 120, 116, 40, 41] from rfl, digits_apart hd (by decide)]; simp), if_pos (digits_apart hd (by decide))]
    unfold numberQ numR
    simp only
    by_cases h : 4 < L.runP digitB q j - j ∨ L.thereB q j [48] = true
    · rw [if_pos (Or.inr h), if_pos h]
    · rw [if_neg (by rintro (h' | h'); exact hd h'; exact h h'), if_neg h]
/-- The predicates from one bracket on, one at a time. -/
def predsR (q : ByteArray) (i : Nat) (m : Nat) : Except L.Bad (Pred × Nat) :=
  if m = 5 then .error ((i : Int), 70) else match predQ q (i + 1) with
  | .error e => .error e
  | .ok (p, n) => if L.thereB q n [93] = false then .error ((n : Int), 70) else .ok (p, n + 1)
theorem preds_step (f : Nat) (q : ByteArray) (i : Nat) (acc : List Pred) (h : L.thereB q i [91] = true) : predsF (f + 1) q i acc = match predsR q i acc.length with
  | .error e => .error e
  | .ok (p, n) => predsF f q n (acc ++ [p]) := by
  conv => lhs; unfold predsF
  unfold predsR
  rw [if_neg (by rw [h]; simp)]
  split
  · rfl
  · split
    · rename_i h2; rw [h2]
    · rename_i p n h2
      rw [h2]
      simp only
      split <;> rfl
theorem preds_stop (f : Nat) (q : ByteArray) (i : Nat) (acc : List Pred) (h : L.thereB q i [91] = false) : predsF f q i acc = .ok (acc, i) := by
  cases f with
  | zero => rfl
  | succ f => unfold predsF; rw [if_pos h]
end Q
end Go.Proofs.YtmgemdhpjibdiaaDoor
