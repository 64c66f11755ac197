/- The walk of the document's own Next: it tells what the plain function says; nothing that was there is written. -/
import Derived.Test.YtidccohjehegjaaDoorGRTextK
import Derived.Test.YtidccohjehegjaaDoorK3
namespace Go.Proofs.YtidccohjehegjaaDoor
open Go.RowKit
theorem take_eq (r : ByteArray) (n : Nat) : (r.extract 0 n).data.toList = r.data.toList.take n := by
  rw [Lib.extract_data]; simp
theorem str_putL (c : Int) : (strOfNums (G.putN c)).data.toList = G.putL c := rfl

set_option maxRecDepth 100000 in
set_option maxHeartbeats 400000 in
theorem rnext_nil (w : World) :
    Calls Tryd.prog 88 #[.string ⟨#[]⟩] w fun e w' => e = .returned (.tuple #[.int .i32 0, .int .i64 0]) ∧ w' = w := by
  go_enter Tryd.func88, Tryd.ntmps88
  go_wp2
  go_ret2
  exact ⟨rfl, rfl⟩

set_option maxRecDepth 100000 in
set_option maxHeartbeats 1000000 in
theorem rnext_a (s : ByteArray) (c : Int) (n : Nat) (w : World) (hs : 0 < s.size) (hm : s.size ≤ maxLen) (x0 : 0 ≤ (s[0].toNat : Int)) (x1 : (s[0].toNat : Int) < 192) (H : Hid (G.nextR s.data.toList 1 (G.valR ((s[0].toNat : Int)) s.data.toList 1) = (c, n))) :
    Calls Tryd.prog 88 #[.string s] w fun e w' => e = .returned (.tuple #[.int .i32 c, .int .i64 (n : Int)]) ∧ Below w.heap.size w w' := by
  unfold maxLen at hm
  have hne : s.toList.isEmpty = false := ne_of_pos s hs
  have HL : Hid (s.data.toList.length = s.size) := by show _ = _; simp
  by_cases ml : s.size < 1
  · omega
  · go_enter Tryd.func88, Tryd.ntmps88
    go_wp2
    go_loop [5, 6] (fun v i => ∃ k : Nat, 1 ≤ k ∧ k ≤ 1 ∧ i = .int .i64 k ∧ v = .int .i32 (G.valR ((s[0].toNat : Int)) s.data.toList k)) (fun _ i => 5 - (intOf i).toNat)
    case atStart => exact ⟨1, by omega, by omega, rfl, rfl⟩
    case round =>
      obtain ⟨k, k1, km, rfl, rfl⟩ := hrel
      by_cases klt : k < 1
      · omega
      · have e : k = 1 := by omega
        subst e
        generalize hv : G.valR ((s[0].toNat : Int)) s.data.toList 1 = v at H ⊢
        clear hv
        have hn : 1 ≤ s.size := by omega
        cases cb : G.charB v
        · have E : Hid (G.nextR s.data.toList 1 v = (-1, 0)) := by
            show _ = _; unfold G.nextR; rw [if_neg (by rw [HL.out]; omega), if_neg (by rw [cb]; simp)]
          obtain ⟨rfl, rfl⟩ := G.pair_eq H.out E.out
          have CB : Hid (G.charB v = false) := cb
          clear cb
          go_wp2_with fail
          refine (rput_no _ _ CB.out).mono ?_
          rintro e w2 ⟨rfl, hb⟩
          go_wp2
          go_ret2
          exact ⟨rfl, hb⟩
        · have CB : Hid (G.charB v = true) := cb
          by_cases pe : G.putL v = s.data.toList.take 1
          · have E : Hid (G.nextR s.data.toList 1 v = (v, 1)) := by
              show _ = _; unfold G.nextR; rw [if_neg (by rw [HL.out]; omega), if_pos ⟨cb, pe⟩]
            obtain ⟨rfl, rfl⟩ := G.pair_eq H.out E.out
            have se : strOfNums (G.putN v) = s.extract 0 1 := WideShapes.bytes_inj (by rw [str_putL, take_eq]; exact pe)
            clear cb pe
            go_wp2_with fail
            refine (rput_yes _ _ CB.out).mono ?_
            rintro e w2 ⟨rfl, hb⟩
            rw [se]
            clear se
            go_wp2
            go_ret2
            exact ⟨rfl, hb⟩
          · have E : Hid (G.nextR s.data.toList 1 v = (-1, 0)) := by
              show _ = _; unfold G.nextR; rw [if_neg (by rw [HL.out]; omega), if_neg (by rw [not_and]; exact fun _ => pe)]
            obtain ⟨rfl, rfl⟩ := G.pair_eq H.out E.out
            have se : ((strOfNums (G.putN v)).toList == (s.extract 0 1).toList) = false := by
              rw [ByteArray.toList_eq, ByteArray.toList_eq, str_putL, take_eq]
              simpa using pe
            clear cb pe
            go_wp2_with fail
            refine (rput_yes _ _ CB.out).mono ?_
            rintro e w2 ⟨rfl, hb⟩
            go_wp2
            go_ret2
            exact ⟨rfl, hb⟩

set_option maxRecDepth 100000 in
set_option maxHeartbeats 1000000 in
theorem rnext_b (s : ByteArray) (c : Int) (n : Nat) (w : World) (hs : 0 < s.size) (hm : s.size ≤ maxLen) (x0 : 192 ≤ (s[0].toNat : Int)) (x1 : (s[0].toNat : Int) < 224) (H : Hid (G.nextR s.data.toList 2 (G.valR ((s[0].toNat : Int) - 192) s.data.toList 2) = (c, n))) :
    Calls Tryd.prog 88 #[.string s] w fun e w' => e = .returned (.tuple #[.int .i32 c, .int .i64 (n : Int)]) ∧ Below w.heap.size w w' := by
  unfold maxLen at hm
  have hne : s.toList.isEmpty = false := ne_of_pos s hs
  have HL : Hid (s.data.toList.length = s.size) := by show _ = _; simp
  by_cases ml : s.size < 2
  · have E : Hid (G.nextR s.data.toList 2 (G.valR ((s[0].toNat : Int) - 192) s.data.toList 2) = (-1, 0)) := by
      show _ = _; unfold G.nextR; rw [if_pos (by rw [HL.out]; exact ml)]
    obtain ⟨rfl, rfl⟩ := G.pair_eq H.out E.out
    go_enter Tryd.func88, Tryd.ntmps88
    go_wp2
    go_ret2
    exact ⟨rfl, Below.refl _ _⟩
  · go_enter Tryd.func88, Tryd.ntmps88
    go_wp2
    go_loop [5, 6] (fun v i => ∃ k : Nat, 1 ≤ k ∧ k ≤ 2 ∧ i = .int .i64 k ∧ v = .int .i32 (G.valR ((s[0].toNat : Int) - 192) s.data.toList k)) (fun _ i => 5 - (intOf i).toNat)
    case atStart => exact ⟨1, by omega, by omega, rfl, rfl⟩
    case round =>
      obtain ⟨k, k1, km, rfl, rfl⟩ := hrel
      by_cases klt : k < 2
      · have kb : k < s.size := by omega
        have vb := G.valR_bound ((s[0].toNat : Int) - 192) s.data.toList (by omega) (by omega) k k1 (by omega)
        obtain ⟨v0, v1⟩ := vb
        have u0 : (s[k].toNat : Int) < 256 := by have := s[k].toNat_lt; omega
        have AK : Hid (G.at' s.data.toList k = (s[k].toNat : Int)) := at_eq s k kb
        have EV : Hid (G.valR ((s[0].toNat : Int) - 192) s.data.toList (k + 1) = G.valR ((s[0].toNat : Int) - 192) s.data.toList k * 64 + (s[k].toNat : Int) - 128) := by
          show _ = _; rw [G.valR_succ _ _ k k1, AK.out]
        go_wp2
        go_round
        case rel => exact ⟨k + 1, by omega, by omega, by go_num, by rw [EV.out]⟩
        case measure => simp [intOf]; omega
      · have e : k = 2 := by omega
        subst e
        generalize hv : G.valR ((s[0].toNat : Int) - 192) s.data.toList 2 = v at H ⊢
        clear hv
        have hn : 2 ≤ s.size := by omega
        cases cb : G.charB v
        · have E : Hid (G.nextR s.data.toList 2 v = (-1, 0)) := by
            show _ = _; unfold G.nextR; rw [if_neg (by rw [HL.out]; omega), if_neg (by rw [cb]; simp)]
          obtain ⟨rfl, rfl⟩ := G.pair_eq H.out E.out
          have CB : Hid (G.charB v = false) := cb
          clear cb
          go_wp2_with fail
          refine (rput_no _ _ CB.out).mono ?_
          rintro e w2 ⟨rfl, hb⟩
          go_wp2
          go_ret2
          exact ⟨rfl, hb⟩
        · have CB : Hid (G.charB v = true) := cb
          by_cases pe : G.putL v = s.data.toList.take 2
          · have E : Hid (G.nextR s.data.toList 2 v = (v, 2)) := by
              show _ = _; unfold G.nextR; rw [if_neg (by rw [HL.out]; omega), if_pos ⟨cb, pe⟩]
            obtain ⟨rfl, rfl⟩ := G.pair_eq H.out E.out
            have se : strOfNums (G.putN v) = s.extract 0 2 := WideShapes.bytes_inj (by rw [str_putL, take_eq]; exact pe)
            clear cb pe
            go_wp2_with fail
            refine (rput_yes _ _ CB.out).mono ?_
            rintro e w2 ⟨rfl, hb⟩
            rw [se]
            clear se
            go_wp2
            go_ret2
            exact ⟨rfl, hb⟩
          · have E : Hid (G.nextR s.data.toList 2 v = (-1, 0)) := by
              show _ = _; unfold G.nextR; rw [if_neg (by rw [HL.out]; omega), if_neg (by rw [not_and]; exact fun _ => pe)]
            obtain ⟨rfl, rfl⟩ := G.pair_eq H.out E.out
            have se : ((strOfNums (G.putN v)).toList == (s.extract 0 2).toList) = false := by
              rw [ByteArray.toList_eq, ByteArray.toList_eq, str_putL, take_eq]
              simpa using pe
            clear cb pe
            go_wp2_with fail
            refine (rput_yes _ _ CB.out).mono ?_
            rintro e w2 ⟨rfl, hb⟩
            go_wp2
            go_ret2
            exact ⟨rfl, hb⟩

set_option maxRecDepth 100000 in
set_option maxHeartbeats 1000000 in
theorem rnext_c (s : ByteArray) (c : Int) (n : Nat) (w : World) (hs : 0 < s.size) (hm : s.size ≤ maxLen) (x0 : 224 ≤ (s[0].toNat : Int)) (x1 : (s[0].toNat : Int) < 240) (H : Hid (G.nextR s.data.toList 3 (G.valR ((s[0].toNat : Int) - 224) s.data.toList 3) = (c, n))) :
    Calls Tryd.prog 88 #[.string s] w fun e w' => e = .returned (.tuple #[.int .i32 c, .int .i64 (n : Int)]) ∧ Below w.heap.size w w' := by
  unfold maxLen at hm
  have hne : s.toList.isEmpty = false := ne_of_pos s hs
  have HL : Hid (s.data.toList.length = s.size) := by show _ = _; simp
  by_cases ml : s.size < 3
  · have E : Hid (G.nextR s.data.toList 3 (G.valR ((s[0].toNat : Int) - 224) s.data.toList 3) = (-1, 0)) := by
      show _ = _; unfold G.nextR; rw [if_pos (by rw [HL.out]; exact ml)]
    obtain ⟨rfl, rfl⟩ := G.pair_eq H.out E.out
    go_enter Tryd.func88, Tryd.ntmps88
    go_wp2
    go_ret2
    exact ⟨rfl, Below.refl _ _⟩
  · go_enter Tryd.func88, Tryd.ntmps88
    go_wp2
    go_loop [5, 6] (fun v i => ∃ k : Nat, 1 ≤ k ∧ k ≤ 3 ∧ i = .int .i64 k ∧ v = .int .i32 (G.valR ((s[0].toNat : Int) - 224) s.data.toList k)) (fun _ i => 5 - (intOf i).toNat)
    case atStart => exact ⟨1, by omega, by omega, rfl, rfl⟩
    case round =>
      obtain ⟨k, k1, km, rfl, rfl⟩ := hrel
      by_cases klt : k < 3
      · have kb : k < s.size := by omega
        have vb := G.valR_bound ((s[0].toNat : Int) - 224) s.data.toList (by omega) (by omega) k k1 (by omega)
        obtain ⟨v0, v1⟩ := vb
        have u0 : (s[k].toNat : Int) < 256 := by have := s[k].toNat_lt; omega
        have AK : Hid (G.at' s.data.toList k = (s[k].toNat : Int)) := at_eq s k kb
        have EV : Hid (G.valR ((s[0].toNat : Int) - 224) s.data.toList (k + 1) = G.valR ((s[0].toNat : Int) - 224) s.data.toList k * 64 + (s[k].toNat : Int) - 128) := by
          show _ = _; rw [G.valR_succ _ _ k k1, AK.out]
        go_wp2
        go_round
        case rel => exact ⟨k + 1, by omega, by omega, by go_num, by rw [EV.out]⟩
        case measure => simp [intOf]; omega
      · have e : k = 3 := by omega
        subst e
        generalize hv : G.valR ((s[0].toNat : Int) - 224) s.data.toList 3 = v at H ⊢
        clear hv
        have hn : 3 ≤ s.size := by omega
        cases cb : G.charB v
        · have E : Hid (G.nextR s.data.toList 3 v = (-1, 0)) := by
            show _ = _; unfold G.nextR; rw [if_neg (by rw [HL.out]; omega), if_neg (by rw [cb]; simp)]
          obtain ⟨rfl, rfl⟩ := G.pair_eq H.out E.out
          have CB : Hid (G.charB v = false) := cb
          clear cb
          go_wp2_with fail
          refine (rput_no _ _ CB.out).mono ?_
          rintro e w2 ⟨rfl, hb⟩
          go_wp2
          go_ret2
          exact ⟨rfl, hb⟩
        · have CB : Hid (G.charB v = true) := cb
          by_cases pe : G.putL v = s.data.toList.take 3
          · have E : Hid (G.nextR s.data.toList 3 v = (v, 3)) := by
              show _ = _; unfold G.nextR; rw [if_neg (by rw [HL.out]; omega), if_pos ⟨cb, pe⟩]
            obtain ⟨rfl, rfl⟩ := G.pair_eq H.out E.out
            have se : strOfNums (G.putN v) = s.extract 0 3 := WideShapes.bytes_inj (by rw [str_putL, take_eq]; exact pe)
            clear cb pe
            go_wp2_with fail
            refine (rput_yes _ _ CB.out).mono ?_
            rintro e w2 ⟨rfl, hb⟩
            rw [se]
            clear se
            go_wp2
            go_ret2
            exact ⟨rfl, hb⟩
          · have E : Hid (G.nextR s.data.toList 3 v = (-1, 0)) := by
              show _ = _; unfold G.nextR; rw [if_neg (by rw [HL.out]; omega), if_neg (by rw [not_and]; exact fun _ => pe)]
            obtain ⟨rfl, rfl⟩ := G.pair_eq H.out E.out
            have se : ((strOfNums (G.putN v)).toList == (s.extract 0 3).toList) = false := by
              rw [ByteArray.toList_eq, ByteArray.toList_eq, str_putL, take_eq]
              simpa using pe
            clear cb pe
            go_wp2_with fail
            refine (rput_yes _ _ CB.out).mono ?_
            rintro e w2 ⟨rfl, hb⟩
            go_wp2
            go_ret2
            exact ⟨rfl, hb⟩

set_option maxRecDepth 100000 in
set_option maxHeartbeats 1000000 in
theorem rnext_d (s : ByteArray) (c : Int) (n : Nat) (w : World) (hs : 0 < s.size) (hm : s.size ≤ maxLen) (x0 : 240 ≤ (s[0].toNat : Int)) (x1 : (s[0].toNat : Int) < 248) (H : Hid (G.nextR s.data.toList 4 (G.valR ((s[0].toNat : Int) - 240) s.data.toList 4) = (c, n))) :
    Calls Tryd.prog 88 #[.string s] w fun e w' => e = .returned (.tuple #[.int .i32 c, .int .i64 (n : Int)]) ∧ Below w.heap.size w w' := by
  unfold maxLen at hm
  have hne : s.toList.isEmpty = false := ne_of_pos s hs
  have HL : Hid (s.data.toList.length = s.size) := by show _ = _; simp
  by_cases ml : s.size < 4
  · have E : Hid (G.nextR s.data.toList 4 (G.valR ((s[0].toNat : Int) - 240) s.data.toList 4) = (-1, 0)) := by
      show _ = _; unfold G.nextR; rw [if_pos (by rw [HL.out]; exact ml)]
    obtain ⟨rfl, rfl⟩ := G.pair_eq H.out E.out
    go_enter Tryd.func88, Tryd.ntmps88
    go_wp2
    go_ret2
    exact ⟨rfl, Below.refl _ _⟩
  · go_enter Tryd.func88, Tryd.ntmps88
    go_wp2
    go_loop [5, 6] (fun v i => ∃ k : Nat, 1 ≤ k ∧ k ≤ 4 ∧ i = .int .i64 k ∧ v = .int .i32 (G.valR ((s[0].toNat : Int) - 240) s.data.toList k)) (fun _ i => 5 - (intOf i).toNat)
    case atStart => exact ⟨1, by omega, by omega, rfl, rfl⟩
    case round =>
      obtain ⟨k, k1, km, rfl, rfl⟩ := hrel
      by_cases klt : k < 4
      · have kb : k < s.size := by omega
        have vb := G.valR_bound ((s[0].toNat : Int) - 240) s.data.toList (by omega) (by omega) k k1 (by omega)
        obtain ⟨v0, v1⟩ := vb
        have u0 : (s[k].toNat : Int) < 256 := by have := s[k].toNat_lt; omega
        have AK : Hid (G.at' s.data.toList k = (s[k].toNat : Int)) := at_eq s k kb
        have EV : Hid (G.valR ((s[0].toNat : Int) - 240) s.data.toList (k + 1) = G.valR ((s[0].toNat : Int) - 240) s.data.toList k * 64 + (s[k].toNat : Int) - 128) := by
          show _ = _; rw [G.valR_succ _ _ k k1, AK.out]
        go_wp2
        go_round
        case rel => exact ⟨k + 1, by omega, by omega, by go_num, by rw [EV.out]⟩
        case measure => simp [intOf]; omega
      · have e : k = 4 := by omega
        subst e
        generalize hv : G.valR ((s[0].toNat : Int) - 240) s.data.toList 4 = v at H ⊢
        clear hv
        have hn : 4 ≤ s.size := by omega
        cases cb : G.charB v
        · have E : Hid (G.nextR s.data.toList 4 v = (-1, 0)) := by
            show _ = _; unfold G.nextR; rw [if_neg (by rw [HL.out]; omega), if_neg (by rw [cb]; simp)]
          obtain ⟨rfl, rfl⟩ := G.pair_eq H.out E.out
          have CB : Hid (G.charB v = false) := cb
          clear cb
          go_wp2_with fail
          refine (rput_no _ _ CB.out).mono ?_
          rintro e w2 ⟨rfl, hb⟩
          go_wp2
          go_ret2
          exact ⟨rfl, hb⟩
        · have CB : Hid (G.charB v = true) := cb
          by_cases pe : G.putL v = s.data.toList.take 4
          · have E : Hid (G.nextR s.data.toList 4 v = (v, 4)) := by
              show _ = _; unfold G.nextR; rw [if_neg (by rw [HL.out]; omega), if_pos ⟨cb, pe⟩]
            obtain ⟨rfl, rfl⟩ := G.pair_eq H.out E.out
            have se : strOfNums (G.putN v) = s.extract 0 4 := WideShapes.bytes_inj (by rw [str_putL, take_eq]; exact pe)
            clear cb pe
            go_wp2_with fail
            refine (rput_yes _ _ CB.out).mono ?_
            rintro e w2 ⟨rfl, hb⟩
            rw [se]
            clear se
            go_wp2
            go_ret2
            exact ⟨rfl, hb⟩
          · have E : Hid (G.nextR s.data.toList 4 v = (-1, 0)) := by
              show _ = _; unfold G.nextR; rw [if_neg (by rw [HL.out]; omega), if_neg (by rw [not_and]; exact fun _ => pe)]
            obtain ⟨rfl, rfl⟩ := G.pair_eq H.out E.out
            have se : ((strOfNums (G.putN v)).toList == (s.extract 0 4).toList) = false := by
              rw [ByteArray.toList_eq, ByteArray.toList_eq, str_putL, take_eq]
              simpa using pe
            clear cb pe
            go_wp2_with fail
            refine (rput_yes _ _ CB.out).mono ?_
            rintro e w2 ⟨rfl, hb⟩
            go_wp2
            go_ret2
            exact ⟨rfl, hb⟩

set_option maxRecDepth 100000 in
set_option maxHeartbeats 1000000 in
theorem rnext_e (s : ByteArray) (c : Int) (n : Nat) (w : World) (hs : 0 < s.size) (hm : s.size ≤ maxLen) (x0 : 248 ≤ (s[0].toNat : Int)) (x1 : (s[0].toNat : Int) < 256) (H : Hid (G.nextR s.data.toList 1 (G.valR ((s[0].toNat : Int)) s.data.toList 1) = (c, n))) :
    Calls Tryd.prog 88 #[.string s] w fun e w' => e = .returned (.tuple #[.int .i32 c, .int .i64 (n : Int)]) ∧ Below w.heap.size w w' := by
  unfold maxLen at hm
  have hne : s.toList.isEmpty = false := ne_of_pos s hs
  have HL : Hid (s.data.toList.length = s.size) := by show _ = _; simp
  by_cases ml : s.size < 1
  · omega
  · go_enter Tryd.func88, Tryd.ntmps88
    go_wp2
    go_loop [5, 6] (fun v i => ∃ k : Nat, 1 ≤ k ∧ k ≤ 1 ∧ i = .int .i64 k ∧ v = .int .i32 (G.valR ((s[0].toNat : Int)) s.data.toList k)) (fun _ i => 5 - (intOf i).toNat)
    case atStart => exact ⟨1, by omega, by omega, rfl, rfl⟩
    case round =>
      obtain ⟨k, k1, km, rfl, rfl⟩ := hrel
      by_cases klt : k < 1
      · omega
      · have e : k = 1 := by omega
        subst e
        generalize hv : G.valR ((s[0].toNat : Int)) s.data.toList 1 = v at H ⊢
        clear hv
        have hn : 1 ≤ s.size := by omega
        cases cb : G.charB v
        · have E : Hid (G.nextR s.data.toList 1 v = (-1, 0)) := by
            show _ = _; unfold G.nextR; rw [if_neg (by rw [HL.out]; omega), if_neg (by rw [cb]; simp)]
          obtain ⟨rfl, rfl⟩ := G.pair_eq H.out E.out
          have CB : Hid (G.charB v = false) := cb
          clear cb
          go_wp2_with fail
          refine (rput_no _ _ CB.out).mono ?_
          rintro e w2 ⟨rfl, hb⟩
          go_wp2
          go_ret2
          exact ⟨rfl, hb⟩
        · have CB : Hid (G.charB v = true) := cb
          by_cases pe : G.putL v = s.data.toList.take 1
          · have E : Hid (G.nextR s.data.toList 1 v = (v, 1)) := by
              show _ = _; unfold G.nextR; rw [if_neg (by rw [HL.out]; omega), if_pos ⟨cb, pe⟩]
            obtain ⟨rfl, rfl⟩ := G.pair_eq H.out E.out
            have se : strOfNums (G.putN v) = s.extract 0 1 := WideShapes.bytes_inj (by rw [str_putL, take_eq]; exact pe)
            clear cb pe
            go_wp2_with fail
            refine (rput_yes _ _ CB.out).mono ?_
            rintro e w2 ⟨rfl, hb⟩
            rw [se]
            clear se
            go_wp2
            go_ret2
            exact ⟨rfl, hb⟩
          · have E : Hid (G.nextR s.data.toList 1 v = (-1, 0)) := by
              show _ = _; unfold G.nextR; rw [if_neg (by rw [HL.out]; omega), if_neg (by rw [not_and]; exact fun _ => pe)]
            obtain ⟨rfl, rfl⟩ := G.pair_eq H.out E.out
            have se : ((strOfNums (G.putN v)).toList == (s.extract 0 1).toList) = false := by
              rw [ByteArray.toList_eq, ByteArray.toList_eq, str_putL, take_eq]
              simpa using pe
            clear cb pe
            go_wp2_with fail
            refine (rput_yes _ _ CB.out).mono ?_
            rintro e w2 ⟨rfl, hb⟩
            go_wp2
            go_ret2
            exact ⟨rfl, hb⟩

theorem rnext_any (s : ByteArray) (c : Int) (n : Nat) (w : World) (hm : s.size ≤ maxLen) (H : Hid (G.nextL s.data.toList = (c, n))) :
    Calls Tryd.prog 88 #[.string s] w fun e w' => e = .returned (.tuple #[.int .i32 c, .int .i64 (n : Int)]) ∧ Below w.heap.size w w' := by
  by_cases h : 0 < s.size
  · have hl := list_of_pos s h
    have a0 := at_eq s 0 h
    have ub := s[0].toNat_lt
    have key : ∀ m hh, G.leadR (G.at' s.data.toList 0) = (m, hh) → Hid (G.nextR s.data.toList m (G.valR hh s.data.toList m) = (c, n)) := fun m hh e => (G.nextR_eq _ hl m hh e).trans H.out
    rw [a0] at key
    by_cases x1 : (s[0].toNat : Int) < 192
    · exact rnext_a s c n w h hm (by omega) x1 (key 1 _ (by unfold G.leadR; rw [if_neg (by omega), if_neg (by omega), if_neg (by omega)]))
    by_cases x2 : (s[0].toNat : Int) < 224
    · exact rnext_b s c n w h hm (by omega) x2 (key 2 _ (by unfold G.leadR; rw [if_pos (by omega)]))
    by_cases x3 : (s[0].toNat : Int) < 240
    · exact rnext_c s c n w h hm (by omega) x3 (key 3 _ (by unfold G.leadR; rw [if_neg (by omega), if_pos (by omega)]))
    by_cases x4 : (s[0].toNat : Int) < 248
    · exact rnext_d s c n w h hm (by omega) x4 (key 4 _ (by unfold G.leadR; rw [if_neg (by omega), if_neg (by omega), if_pos (by omega)]))
    · exact rnext_e s c n w h hm (by omega) (by omega) (key 1 _ (by unfold G.leadR; rw [if_neg (by omega), if_neg (by omega), if_neg (by omega)]))
  · obtain rfl := of_empty s h
    obtain ⟨rfl, rfl⟩ := G.next_eq H.out (show G.nextL [] = (0, 0) from rfl)
    refine (rnext_nil w).mono ?_
    rintro e w1 ⟨rfl, rfl⟩
    exact ⟨rfl, Below.refl _ _⟩
end Go.Proofs.YtidccohjehegjaaDoor
