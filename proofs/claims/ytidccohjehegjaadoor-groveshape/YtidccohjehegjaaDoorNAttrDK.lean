/- The library's slices.Delete at attributes: one taken out. -/
import Derived.Test.YtidccohjehegjaaDoorNAttrIK
namespace Go.Proofs.YtidccohjehegjaaDoor
open Go.RowKit Go.Shelf Go.Lib
namespace N
open T
/-- Attributes, one taken out. -/
def delT (l : List L.Attr) (i : Nat) : List L.Attr := l.take i ++ l.drop (i + 1)
theorem delT_len (l : List L.Attr) (i : Nat) (h : i < l.length) : (delT l i).length = l.length - 1 := by
  simp only [delT, List.length_append, List.length_take, List.length_drop]
  omega
theorem del_over (cur : List Value) (l : List L.Attr) (i : Nat) (z : List Value) (hi : i < l.length) (hc : l.length * 2 ≤ cur.length) (ht : cur.take (l.length * 2) = encL l) :
    (over (over cur (i * 2) (encL (l.drop (i + 1)))) ((l.length - 1) * 2) z).take ((l.length - 1) * 2) = encL (delT l i) := by
  have hd : (encL (l.drop (i + 1))).length = (l.length - (i + 1)) * 2 := by rw [encL_length, List.length_drop]
  have h1 : cur.take (i * 2) = encL (l.take i) := by
    rw [← encL_take, ← ht, List.take_take, Nat.min_eq_left (by omega)]
  have hti : (encL (l.take i)).length = i * 2 := by rw [encL_length, List.length_take]; omega
  have hol : (over cur (i * 2) (encL (l.drop (i + 1)))).length = cur.length := over_len _ _ _ (by rw [hd]; omega)
  rw [over, List.take_append_of_le_length (by rw [List.length_take, hol]; omega), List.take_take, Nat.min_self, over, h1, delT, encL_app, ← List.append_assoc]
  exact List.take_left' (by rw [List.length_append, hti, hd]; omega)
set_option maxRecDepth 100000 in
set_option maxHeartbeats 4000000 in
theorem adel_run {w : World} {b n kc i : Nat} {l : List L.Attr} (cur : Array Value) (hb : w.heap[b]? = some (.cells cur 79 (0, 0))) (hl : l.length = n) (hi : i < n) (hnc : n ≤ kc) (hkc : kc ≤ 9223372036854775807) (hcs : cur.size = kc * 2) (ht : cur.toList.take (n * 2) = encL l) :
    Calls Tryd.prog 44 #[.slice (some ⟨b, 0, none⟩) n kc, .int .i64 (i : Int), .int .i64 ((i : Int) + 1)] w fun e w' => e = .returned (.slice (some ⟨b, 0, none⟩) (n - 1) kc) ∧ w' = (w.drew.setCells b (i * 2) (encL (l.drop (i + 1)))).setRow b (over (over cur.toList (i * 2) (encL (l.drop (i + 1)))) ((n - 1) * 2) [.string ⟨#[]⟩, .string ⟨#[]⟩]).toArray := by
  obtain ⟨i0, I0, I1, I2, I3⟩ := info_parts N.infoA
  have hd : (encL (l.drop (i + 1))).length = (n - (i + 1)) * 2 := by rw [encL_length, List.length_drop, hl]
  have hbL : w.drew.heap[b]? = some (.cells cur.toList.toArray 79 (0, 0)) := by rw [Array.toArray_toList]; exact hb
  obtain ⟨A, hA, hsrc⟩ : ∃ A : Addr, (if kc = i + 1 then some (⟨b, 0, none⟩ : Addr) else some ⟨b, (i + 1) * 2, none⟩) = some A ∧ Hid (∀ t u, (encL (l.drop (i + 1)))[t]? = some u → w.drew.cell? (A.add t) = some u) := by
    by_cases h : kc = i + 1
    · refine ⟨⟨b, 0, none⟩, by simp [h], fun t u hu => ?_⟩
      have h0 : (encL (l.drop (i + 1))).length = 0 := by rw [hd]; omega
      rw [List.length_eq_zero_iff.1 h0] at hu
      simp at hu
    · refine ⟨⟨b, (i + 1) * 2, none⟩, by simp [h], cells_at hbL _ _ ?_⟩
      rw [hd, ← encL_drop, ← ht, List.drop_take]
      congr 1
      omega
  have s1 : Hid ((encL (l.drop (i + 1))).length = (n - (i + 1)) * 2) := hd
  have s2 : Hid (∀ u ∈ encL (l.drop (i + 1)), u.oneCell' = true) := encL_one _
  have s3 : Hid (∀ t, t < (encL (l.drop (i + 1))).length → (w.drew.cell? ⟨b, 0 + i * 2 + t, none⟩).isSome = true ∧ w.drew.frozen? ⟨b, 0 + i * 2 + t, none⟩ = false) := by
    intro t htt
    rw [hd] at htt
    refine ⟨?_, Lib.frozen_of_heap (w := w.drew) hb _⟩
    rw [Lib.cell_of_heap (w := w.drew) hb, Array.getElem?_eq_getElem (by omega)]
    rfl
  have hol : (over cur.toList (i * 2) (encL (l.drop (i + 1)))).length = kc * 2 := by rw [over_len _ _ _ (by rw [hd, Array.length_toList]; omega), Array.length_toList, hcs]
  have hW : (w.drew.setCells b (i * 2) (encL (l.drop (i + 1)))).heap[b]? = some (.cells (over cur.toList (i * 2) (encL (l.drop (i + 1)))).toArray 79 (0, 0)) := by
    have q := heap_setCells b 79 (encL (l.drop (i + 1))) (i * 2) w.drew cur hb
    have q2 := putA_list (encL (l.drop (i + 1))) cur (i * 2) (by rw [hd]; omega)
    rw [q]
    congr 2
    rw [over, ← q2, Array.toArray_toList]
  obtain ⟨W1, hW1⟩ : ∃ W1, W1 = w.drew.setCells b (0 + i * 2) (encL (l.drop (i + 1))) := ⟨_, rfl⟩
  have HW := hid hW1
  rw [Nat.zero_add] at hW1
  rw [← hW1] at hW ⊢
  have e9 : i + (n - (i + 1)) = n - 1 := by omega
  have e10 : n - (n - 1) = 1 := by omega
  have hcl : ∀ ty cp, (Builtin.clear_ #[38] ty #[.slice (some ⟨b, (i + (n - (i + 1))) * 2, none⟩) (n - (i + (n - (i + 1)))) cp]).run Tryd.prog W1 = .ok (.tuple #[]) (W1.setRow b (over (over cur.toList (i * 2) (encL (l.drop (i + 1)))) ((n - 1) * 2) [.string ⟨#[]⟩, .string ⟨#[]⟩]).toArray) := fun ty cp => by
    rw [e9, e10]
    exact clear_run W1 _ ty 79 b ((n - 1) * 2) 1 cp _ 79 (.agg #[.string ⟨#[]⟩, .string ⟨#[]⟩]) _ Tryd.underlying38 (fun w => by kernel_rfl) (by kernel_rfl) (by decide) hW (by rw [hol]; show (n - 1) * 2 + 2 ≤ _; omega) (by intro v hv; simp only [List.mem_cons, List.not_mem_nil, or_false] at hv; rcases hv with rfl | rfl <;> rfl)
  have HE := hid e9
  clear e9 e10 hW hW1 hol hbL ht hcs hb hd
  have mixed : Tryd.prog.follows .mixedOrders = true := by kernel_rfl
  have hic : i ≤ kc := by omega
  have hjc : i + 1 ≤ kc := by omega
  have hj1 : (0 : Int) ≤ (i : Int) + 1 := by omega
  have hj2 : (i : Int) + 1 ≤ (n : Int) := by omega
  have htn : ((i : Int) + 1).toNat = i + 1 := by omega
  go_enter Tryd.func44, Tryd.ntmps44
  go_wp2_with fail
  go_region_law_o (refine step_append_room rfl (.tmp 22) (.tmp 25) 38 rfl 79 i0 2 Tryd.underlying38 I0 I2 b 0 i kc (by simp [Act.eval, Act.put]) A (n - (i + 1)) (kc - (i + 1)) (encL (l.drop (i + 1))) (by simp [Act.eval, Act.put]) s1.out hsrc.out s2.out (by omega) s3.out ?_; rw [← HW.out])
  go_wp2
  go_ret
  exact ⟨by show Ending.returned (.slice (some ⟨b, 0, none⟩) (i + (n - (i + 1))) kc) = _; rw [HE.out], rfl⟩
theorem adel_any {w : World} {B n kc i : Nat} {l : List L.Attr} {ka : Option Addr} (h : w.ownsRow B 79 2 (.slice ka n kc) n (encL l)) (hi : i < n) :
    Calls Tryd.prog 44 #[.slice ka n kc, .int .i64 (i : Int), .int .i64 ((i : Int) + 1)] w fun e w' => e = .returned (.slice ka (n - 1) kc) ∧ w'.ownsRow B 79 2 (.slice ka (n - 1) kc) (n - 1) (encL (delT l i)) ∧ w.grownBy w' (Value.slice ka n kc).ownBlock := by
  have hln : l.length = n := by have := h.1; rw [encL_length] at this; omega
  rcases h.2 with ⟨q, hn0⟩ | ⟨b, cap, cur, q, hbB, k2, k3, k4, k5, k6⟩
  · omega
  · simp only [Value.slice.injEq] at q
    obtain ⟨rfl, -, rfl⟩ := q
    refine (adel_run cur k2 hln hi k3 k4 k5 k6).mono ?_
    rintro e w' ⟨rfl, rfl⟩
    have hd : (encL (l.drop (i + 1))).length = (n - (i + 1)) * 2 := by rw [encL_length, List.length_drop, hln]
    have hol : (over cur.toList (i * 2) (encL (l.drop (i + 1)))).length = kc * 2 := by rw [over_len _ _ _ (by rw [hd, Array.length_toList]; omega), Array.length_toList, k5]
    have ho2 : (over (over cur.toList (i * 2) (encL (l.drop (i + 1)))) ((n - 1) * 2) [.string ⟨#[]⟩, .string ⟨#[]⟩]).length = kc * 2 := by rw [over_len _ _ _ (by rw [hol]; show (n - 1) * 2 + 2 ≤ _; omega), hol]
    have hfin := del_over cur.toList l i [.string ⟨#[]⟩, .string ⟨#[]⟩] (by omega) (by have := Array.length_toList (xs := cur); omega) (by rw [hln]; exact k6)
    rw [hln] at hfin
    have g1 := heap_setCells b 79 (encL (l.drop (i + 1))) (i * 2) w.drew cur k2
    have z1 := setCells_grown b (encL (l.drop (i + 1))) (i * 2) w.drew
    refine ⟨rfl, ⟨by rw [encL_length, delT_len _ _ (by omega), hln], Or.inr ⟨b, kc, _, rfl, hbB, setRow_heap _ b _ _ _ _ g1, by omega, k4, by simpa using ho2, by simpa using hfin⟩⟩, ?_⟩
    have z2 := setRow_grown (w.drew.setCells b (i * 2) (encL (l.drop (i + 1)))) b (over (over cur.toList (i * 2) (encL (l.drop (i + 1)))) ((n - 1) * 2) [.string ⟨#[]⟩, .string ⟨#[]⟩]).toArray
    exact ⟨z2.os.trans z1.os, z2.tape.trans z1.tape, z2.output.trans z1.output, Nat.le_trans z1.size z2.size, fun k hk hn => (z2.block k (Nat.lt_of_lt_of_le hk z1.size) hn).trans (z1.block k hk hn)⟩
end N
end Go.Proofs.YtidccohjehegjaaDoor
