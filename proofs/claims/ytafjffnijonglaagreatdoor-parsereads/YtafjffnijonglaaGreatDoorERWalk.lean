/- The walks of the document's own begins and number: each tells the plain function's answer; nothing is written. -/
import Derived.Test.YtafjffnijonglaaGreatDoorERPlain
import Derived.Test.YtafjffnijonglaaGreatDoorEUndo
namespace Go.Proofs.YtafjffnijonglaaGreatDoor
open Go.RowKit

set_option maxRecDepth 100000 in
set_option maxHeartbeats 400000 in
theorem rbegins_any (s t : ByteArray) (b : Bool) (w : World) (H : Hid (E.preB t.data.toList s.data.toList = b)) :
    Calls Tryz.prog 84 #[.string s, .string t] w fun e w' => e = .returned (.bool b) ∧ w' = w := by
  have HP : Hid ((decide (t.size ≤ s.size) && ((s.extract 0 t.size).toList == t.toList)) = b) := (Lib.hasPrefix_raw s t).trans H.out
  by_cases le : t.size ≤ s.size
  · have HQ : Hid (((s.extract 0 t.size).toList == t.toList) = b) := by
      have := HP.out
      exact hid (by simpa [le] using this)
    go_enter Tryz.func84, Tryz.ntmps84
    go_wp2
    go_ret
    exact ⟨ret_bool HQ.out, rfl⟩
  · have HQ : Hid (b = false) := by
      have := HP.out
      exact hid (by simpa [le] using this.symm)
    go_enter Tryz.func84, Tryz.ntmps84
    go_wp2
    go_ret
    exact ⟨ret_bool HQ.out.symm, rfl⟩

theorem byte_peek (s : ByteArray) (k : Nat) (h : k < s.size) : E.peekV s.data.toList k = (s[k].toNat : Int) := by
  rw [E.peek_lt (by simpa using h), at_eq s k h]

set_option maxRecDepth 100000 in
set_option maxHeartbeats 400000 in
theorem rnumber10_any (s : ByteArray) (z : Int) (w : World) (hs : s.size ≤ 10) (H : Hid (E.numS 10 s.data.toList = z)) :
    Calls Tryz.prog 85 #[.string s, .int .i64 10] w fun e w' => e = .returned (.int .i64 z) ∧ w' = w := by
  have SL : Hid (s.data.toList.length = s.size) := by show _ = _; simp
  go_enter Tryz.func85, Tryz.ntmps85
  go_wp2
  go_loop [5, 6] (fun v5 v6 => ∃ (k : Nat) (n : Int), k ≤ s.size ∧ v6 = .int .i64 k ∧ v5 = .int .i64 n ∧ Hid (E.valD 10 s.data.toList 0 k = n ∧ E.allD 10 s.data.toList 0 k = true)) (fun _ v6 => s.size - (intOf v6).toNat)
  case atStart => exact ⟨0, 0, by omega, rfl, rfl, ⟨rfl, rfl⟩⟩
  case round =>
    obtain ⟨k, n, hk, rfl, rfl, HK⟩ := hrel
    have nb := E.valD_bound 10 (by omega) (by omega) s.data.toList 0 k HK.out.2
    have np := E.powA10 k (by omega)
    rw [HK.out.1] at nb
    obtain ⟨n0, n1⟩ := nb
    have n2 : n < 1099511627776 := by omega
    clear n1 np
    by_cases klt : k < s.size
    · obtain ⟨x, hx⟩ : ∃ x : Int, x = (s[k].toNat : Int) := ⟨_, rfl⟩
      have x0 : 0 ≤ x := by omega
      have x1 : x < 256 := by have := s[k].toNat_lt; omega
      have PX : Hid (E.peekV s.data.toList k = x) := by show _ = _; rw [byte_peek s k klt, hx]
      have next : ∀ d, E.hexV x = d → d < 10 → Hid (E.valD 10 s.data.toList 0 (k + 1) = n * 10 + d ∧ E.allD 10 s.data.toList 0 (k + 1) = true) := by
        intro d hd hl
        show _ ∧ _
        rw [E.valD, E.allD, HK.out.1, HK.out.2, Nat.zero_add, PX.out, hd]
        simp [hl]
      have NX := hid next
      clear next
      subst hx
      by_cases r : 48 ≤ (s[k].toNat : Int) ∧ (s[k].toNat : Int) ≤ 57
      · obtain ⟨r0, r1⟩ := r
        have NN := NX.out ((s[k].toNat : Int) - 48) (by unfold E.hexV; repeat (first | split | omega)) (by omega)
        go_wp2
        go_round
        case rel => exact ⟨k + 1, n * 10 + ((s[k].toNat : Int) - 48), by omega, by go_num, by go_num, NN⟩
        case measure => simp [intOf]; omega
      · have HB : Hid (z = -1) := by
          show _ = _
          rw [← H.out]
          refine E.numS_bad (k := k) (by rw [SL.out]; exact klt) ?_
          rw [PX.out]
          unfold E.hexV
          repeat (first | split | omega)
        go_wp2
        all_goals
          go_ret
          exact ⟨ret_i64 HB.out.symm, rfl⟩
    · have e : k = s.size := by omega
      subst e
      by_cases len : 1 ≤ s.size ∧ s.size ≤ 7
      · have HB : Hid (z = n) := by
          show _ = _
          rw [← H.out]
          unfold E.numS
          rw [SL.out, if_pos ⟨HK.out.2, len⟩, HK.out.1]
        go_wp2
        go_ret
        exact ⟨ret_i64 HB.out.symm, rfl⟩
      · have HB : Hid (z = -1) := by
          show _ = _
          rw [← H.out]
          unfold E.numS
          rw [SL.out, if_neg (fun q => len q.2)]
        by_cases small : s.size < 1
        · go_wp2
          go_ret
          exact ⟨ret_i64 HB.out.symm, rfl⟩
        · go_wp2
          go_ret
          exact ⟨ret_i64 HB.out.symm, rfl⟩

set_option maxRecDepth 100000 in
set_option maxHeartbeats 400000 in
theorem rnumber16_any (s : ByteArray) (z : Int) (w : World) (hs : s.size ≤ 10) (H : Hid (E.numS 16 s.data.toList = z)) :
    Calls Tryz.prog 85 #[.string s, .int .i64 16] w fun e w' => e = .returned (.int .i64 z) ∧ w' = w := by
  have SL : Hid (s.data.toList.length = s.size) := by show _ = _; simp
  go_enter Tryz.func85, Tryz.ntmps85
  go_wp2
  go_loop [5, 6] (fun v5 v6 => ∃ (k : Nat) (n : Int), k ≤ s.size ∧ v6 = .int .i64 k ∧ v5 = .int .i64 n ∧ Hid (E.valD 16 s.data.toList 0 k = n ∧ E.allD 16 s.data.toList 0 k = true)) (fun _ v6 => s.size - (intOf v6).toNat)
  case atStart => exact ⟨0, 0, by omega, rfl, rfl, ⟨rfl, rfl⟩⟩
  case round =>
    obtain ⟨k, n, hk, rfl, rfl, HK⟩ := hrel
    have nb := E.valD_bound 16 (by omega) (by omega) s.data.toList 0 k HK.out.2
    have np := E.powA16 k (by omega)
    rw [HK.out.1] at nb
    obtain ⟨n0, n1⟩ := nb
    have n2 : n < 1099511627776 := by omega
    clear n1 np
    by_cases klt : k < s.size
    · obtain ⟨x, hx⟩ : ∃ x : Int, x = (s[k].toNat : Int) := ⟨_, rfl⟩
      have x0 : 0 ≤ x := by omega
      have x1 : x < 256 := by have := s[k].toNat_lt; omega
      have PX : Hid (E.peekV s.data.toList k = x) := by show _ = _; rw [byte_peek s k klt, hx]
      have next : ∀ d, E.hexV x = d → d < 16 → Hid (E.valD 16 s.data.toList 0 (k + 1) = n * 16 + d ∧ E.allD 16 s.data.toList 0 (k + 1) = true) := by
        intro d hd hl
        show _ ∧ _
        rw [E.valD, E.allD, HK.out.1, HK.out.2, Nat.zero_add, PX.out, hd]
        simp [hl]
      have NX := hid next
      clear next
      subst hx
      by_cases r : 48 ≤ (s[k].toNat : Int) ∧ (s[k].toNat : Int) ≤ 57
      · obtain ⟨r0, r1⟩ := r
        have NN := NX.out ((s[k].toNat : Int) - 48) (by unfold E.hexV; repeat (first | split | omega)) (by omega)
        go_wp2
        go_round
        case rel => exact ⟨k + 1, n * 16 + ((s[k].toNat : Int) - 48), by omega, by go_num, by go_num, NN⟩
        case measure => simp [intOf]; omega
      by_cases r : 97 ≤ (s[k].toNat : Int) ∧ (s[k].toNat : Int) ≤ 102
      · obtain ⟨r0, r1⟩ := r
        have NN := NX.out ((s[k].toNat : Int) - 87) (by unfold E.hexV; repeat (first | split | omega)) (by omega)
        go_wp2
        go_round
        case rel => exact ⟨k + 1, n * 16 + ((s[k].toNat : Int) - 87), by omega, by go_num, by go_num, NN⟩
        case measure => simp [intOf]; omega
      by_cases r : 65 ≤ (s[k].toNat : Int) ∧ (s[k].toNat : Int) ≤ 70
      · obtain ⟨r0, r1⟩ := r
        have NN := NX.out ((s[k].toNat : Int) - 55) (by unfold E.hexV; repeat (first | split | omega)) (by omega)
        go_wp2
        go_round
        case rel => exact ⟨k + 1, n * 16 + ((s[k].toNat : Int) - 55), by omega, by go_num, by go_num, NN⟩
        case measure => simp [intOf]; omega
      · have HB : Hid (z = -1) := by
          show _ = _
          rw [← H.out]
          refine E.numS_bad (k := k) (by rw [SL.out]; exact klt) ?_
          rw [PX.out]
          unfold E.hexV
          repeat (first | split | omega)
        go_wp2
        all_goals
          go_ret
          exact ⟨ret_i64 HB.out.symm, rfl⟩
    · have e : k = s.size := by omega
      subst e
      by_cases len : 1 ≤ s.size ∧ s.size ≤ 7
      · have HB : Hid (z = n) := by
          show _ = _
          rw [← H.out]
          unfold E.numS
          rw [SL.out, if_pos ⟨HK.out.2, len⟩, HK.out.1]
        go_wp2
        go_ret
        exact ⟨ret_i64 HB.out.symm, rfl⟩
      · have HB : Hid (z = -1) := by
          show _ = _
          rw [← H.out]
          unfold E.numS
          rw [SL.out, if_neg (fun q => len q.2)]
        by_cases small : s.size < 1
        · go_wp2
          go_ret
          exact ⟨ret_i64 HB.out.symm, rfl⟩
        · go_wp2
          go_ret
          exact ⟨ret_i64 HB.out.symm, rfl⟩

end Go.Proofs.YtafjffnijonglaaGreatDoor
