/- The walks of glyph.Put, of the document's own six and Put: a character's bytes, or none. -/
import Derived.Test.YtmgemdhpjibdiaaDoorGLay
import Derived.Test.YtmgemdhpjibdiaaDoorGText
import Derived.Test.YtmgemdhpjibdiaaDoorGKinds
namespace Go.Proofs.YtmgemdhpjibdiaaDoor
open Go.RowKit
theorem ret_sb {s t : ByteArray} {b : Bool} (h : s = t) : Ending.returned (.tuple #[.string s, .bool b]) = .returned (.tuple #[.string t, .bool b]) := by rw [h]

set_option maxRecDepth 100000 in
set_option maxHeartbeats 400000 in
theorem lay_2 (f r0 : Int) (w : World) (h0 : 0 ≤ r0) (h1 : r0 < 2147483648) :
    Calls Tryd.prog 161 #[.int .i32 f, .slice (some ⟨w.heap.size, 0, none⟩) 1 1] (w.alloc (.cells #[.int .i32 r0] 21)) fun e w' => e = .returned (.string (strOfNums [f % 256, 128 + r0 % 64])) ∧ Below (w.heap.size + 1) (w.alloc (.cells #[.int .i32 r0] 21)) w' := by
  have := lay_any f [r0] w.heap.size 0 (w.alloc (.cells #[.int .i32 r0] 21)) (by simp) (by intro i hi; match i, hi with | 0, _ => exact ⟨h0, h1⟩)
    (by intro i hi; match i, hi with | 0, _ => simp) (by simp)
  simpa [G.layTo] using this
set_option maxRecDepth 100000 in
set_option maxHeartbeats 400000 in
theorem lay_3 (f r0 r1 : Int) (w : World) (h0 : 0 ≤ r0) (h1 : r0 < 2147483648) (h2 : 0 ≤ r1) (h3 : r1 < 2147483648) :
    Calls Tryd.prog 161 #[.int .i32 f, .slice (some ⟨w.heap.size, 0, none⟩) 2 2] (w.alloc (.cells #[.int .i32 r0, .int .i32 r1] 21)) fun e w' => e = .returned (.string (strOfNums [f % 256, 128 + r0 % 64, 128 + r1 % 64])) ∧ Below (w.heap.size + 1) (w.alloc (.cells #[.int .i32 r0, .int .i32 r1] 21)) w' := by
  have := lay_any f [r0, r1] w.heap.size 0 (w.alloc (.cells #[.int .i32 r0, .int .i32 r1] 21)) (by simp) (by intro i hi; match i, hi with | 0, _ => exact ⟨h0, h1⟩ | 1, _ => exact ⟨h2, h3⟩)
    (by intro i hi; match i, hi with | 0, _ => simp | 1, _ => simp) (by simp)
  simpa [G.layTo] using this
set_option maxRecDepth 100000 in
set_option maxHeartbeats 400000 in
theorem lay_4 (f r0 r1 r2 : Int) (w : World) (h0 : 0 ≤ r0) (h1 : r0 < 2147483648) (h2 : 0 ≤ r1) (h3 : r1 < 2147483648) (h4 : 0 ≤ r2) (h5 : r2 < 2147483648) :
    Calls Tryd.prog 161 #[.int .i32 f, .slice (some ⟨w.heap.size, 0, none⟩) 3 3] (w.alloc (.cells #[.int .i32 r0, .int .i32 r1, .int .i32 r2] 21)) fun e w' => e = .returned (.string (strOfNums [f % 256, 128 + r0 % 64, 128 + r1 % 64, 128 + r2 % 64])) ∧ Below (w.heap.size + 1) (w.alloc (.cells #[.int .i32 r0, .int .i32 r1, .int .i32 r2] 21)) w' := by
  have := lay_any f [r0, r1, r2] w.heap.size 0 (w.alloc (.cells #[.int .i32 r0, .int .i32 r1, .int .i32 r2] 21)) (by simp) (by intro i hi; match i, hi with | 0, _ => exact ⟨h0, h1⟩ | 1, _ => exact ⟨h2, h3⟩ | 2, _ => exact ⟨h4, h5⟩)
    (by intro i hi; match i, hi with | 0, _ => simp | 1, _ => simp | 2, _ => simp) (by simp)
  simpa [G.layTo] using this

theorem put_no (c : Int) (w : World) (ht : Tab w) (hc : G.charB c = false) :
    Calls Tryd.prog 151 #[.int .i32 c] w fun e w' => e = .returned (.tuple #[.string ⟨#[]⟩, .bool false]) ∧ Below w.heap.size w w' := by
  have Ht : Hid (Tab w) := ht
  clear ht
  go_enter Tryd.func151, Tryd.ntmps151
  go_wp2_with fail
  refine (char_any _ _ Ht.out).mono ?_
  rintro e w1 ⟨rfl, hb⟩
  go_wp2
  go_ret2
  exact ⟨rfl, hb⟩

set_option maxRecDepth 100000 in
set_option maxHeartbeats 400000 in
theorem put_yes (c : Int) (w : World) (ht : Tab w) (hc : G.charB c = true) :
    Calls Tryd.prog 151 #[.int .i32 c] w fun e w' => e = .returned (.tuple #[.string (strOfNums (G.putN c)), .bool true]) ∧ Below w.heap.size w w' := by
  have Ht : Hid (Tab w) := ht
  have hr := G.char_range c hc
  obtain ⟨hr1, hr2⟩ := hr
  clear ht
  by_cases c1 : c < 128
  · have E : Hid (G.putN c = [c % 256]) := by show _ = _; simp [G.putN, c1]; omega
    go_enter Tryd.func151, Tryd.ntmps151
    go_wp2_with fail
    refine (char_any _ _ Ht.out).mono ?_
    rintro e w1 ⟨rfl, hb⟩
    go_wp2_with fail
    refine (lay_one _ _).mono ?_
    rintro e w2 ⟨rfl, hb2⟩
    go_wp2
    go_ret2
    exact ⟨ret_sb (by rw [E.out]), hb.trans (hb2.mono hb.size)⟩
  · by_cases c2 : c < 2048
    · have E : Hid (G.putN c = [(192 + c / 64) % 256, 128 + c % 64]) := by show _ = _; simp [G.putN, c1, c2]; omega
      go_enter Tryd.func151, Tryd.ntmps151
      go_wp2_with fail
      refine (char_any _ _ Ht.out).mono ?_
      rintro e w1 ⟨rfl, hb⟩
      go_wp2_with fail
      refine (lay_2 _ _ w1 (by omega) (by omega)).mono ?_
      rintro e w2 ⟨rfl, hb2⟩
      go_wp2
      go_ret2
      exact ⟨ret_sb (by rw [E.out]), (hb.alloc hb.size _).trans (hb2.mono (by have := hb.size; omega))⟩
    · by_cases c3 : c < 65536
      · have E : Hid (G.putN c = [(224 + c / 4096) % 256, 128 + c / 64 % 64, 128 + c % 64]) := by show _ = _; simp [G.putN, c1, c2, c3]; omega
        go_enter Tryd.func151, Tryd.ntmps151
        go_wp2_with fail
        refine (char_any _ _ Ht.out).mono ?_
        rintro e w1 ⟨rfl, hb⟩
        go_wp2_with fail
        refine (lay_3 _ _ _ w1 (by omega) (by omega) (by omega) (by omega)).mono ?_
        rintro e w2 ⟨rfl, hb2⟩
        go_wp2
        go_ret2
        exact ⟨ret_sb (by rw [E.out, G.or224 _ (by omega) (by omega)]), (hb.alloc hb.size _).trans (hb2.mono (by have := hb.size; omega))⟩
      · have E : Hid (G.putN c = [(240 + c / 262144) % 256, 128 + c / 4096 % 64, 128 + c / 64 % 64, 128 + c % 64]) := by show _ = _; simp [G.putN, c1, c2, c3]; omega
        go_enter Tryd.func151, Tryd.ntmps151
        go_wp2_with fail
        refine (char_any _ _ Ht.out).mono ?_
        rintro e w1 ⟨rfl, hb⟩
        go_wp2_with fail
        refine (lay_4 _ _ _ _ w1 (by omega) (by omega) (by omega) (by omega) (by omega) (by omega)).mono ?_
        rintro e w2 ⟨rfl, hb2⟩
        go_wp2
        go_ret2
        exact ⟨ret_sb (by rw [E.out, G.or240 _ (by omega) (by omega)]), (hb.alloc hb.size _).trans (hb2.mono (by have := hb.size; omega))⟩

set_option maxRecDepth 100000 in
set_option maxHeartbeats 400000 in
theorem six_any (c f d : Int) (w : World) (h0 : 0 ≤ c) (h1 : c ≤ 1114111) (hf : 1 ≤ f) (hf2 : f ≤ 4096) (hd : c / f = d) :
    Calls Tryd.prog 145 #[.int .i32 c, .int .i32 f] w fun e w' => e = .returned (.int .u8 (128 + d % 64)) ∧ w' = w := by
  have hd1 : 0 ≤ c / f := Int.ediv_nonneg h0 (by omega)
  have hd2 : c / f ≤ c := Int.ediv_le_self _ h0
  have Hd : Hid (c / f = d) := hd
  clear hd
  go_enter Tryd.func145, Tryd.ntmps145
  go_wp2
  go_ret
  refine ⟨?_, rfl⟩
  refine congrArg (fun n => Ending.returned (.int .u8 n)) ?_
  rw [← Hd.out]

theorem rput_no (c : Int) (w : World) (hc : G.charB c = false) :
    Calls Tryd.prog 137 #[.int .i32 c] w fun e w' => e = .returned (.tuple #[.string ⟨#[]⟩, .bool false]) ∧ Below w.heap.size w w' := by
  go_enter Tryd.func137, Tryd.ntmps137
  go_wp2_with fail
  refine (rchar_any _ _).mono ?_
  rintro e w1 ⟨rfl, rfl⟩
  go_wp2
  go_ret2
  exact ⟨rfl, Below.refl _ _⟩

theorem conv_lit (w : World) (n : Nat) (xs : List Int) (h : xs.length = n + 1) (hn : n ≤ 3) :
    (convert 112 9 (.slice (some ⟨w.heap.size, 0, none⟩) (n + 1) (n + 1))).run Tryd.prog (w.alloc (.cells (xs.map (Value.int .u8)).toArray 5)) = .ok (.string (strOfNums xs)) (w.alloc (.cells (xs.map (Value.int .u8)).toArray 5)) :=
  G.lay_end (base := w.heap.size) (by simpa using World.ownsRow_lit (base := w.heap.size) (e := 5) (size := 1) w (xs.map (Value.int .u8)).toArray (n + 1) (Nat.le_refl _) (by unfold maxLen; omega) (by simp [h]))

set_option maxRecDepth 100000 in
set_option maxHeartbeats 400000 in
theorem rput_yes (c : Int) (w : World) (hc : G.charB c = true) :
    Calls Tryd.prog 137 #[.int .i32 c] w fun e w' => e = .returned (.tuple #[.string (strOfNums (G.putN c)), .bool true]) ∧ Below w.heap.size w w' := by
  have hr := G.char_range c hc
  obtain ⟨hr1, hr2⟩ := hr
  by_cases c1 : c < 128
  · have E : Hid (G.putN c = [c]) := by show _ = _; simp [G.putN, c1]
    have hv := conv_lit w 0 [c] rfl (by omega)
    simp only [List.map_cons, List.map_nil, Nat.zero_add] at hv
    go_enter Tryd.func137, Tryd.ntmps137
    go_wp2_with fail
    refine (rchar_any _ _).mono ?_
    rintro e w1 ⟨rfl, rfl⟩
    go_wp2
    go_ret2
    exact ⟨ret_sb (by rw [E.out]), (Below.refl _ _).alloc (Nat.le_refl _) _⟩
  · by_cases c2 : c < 2048
    · have E : Hid (G.putN c = [192 + c / 64, 128 + c % 64]) := by show _ = _; simp [G.putN, c1, c2]
      have hv := conv_lit w 1 [192 + c / 64, 128 + c % 64] rfl (by omega)
      simp only [List.map_cons, List.map_nil, Nat.reduceAdd] at hv
      go_enter Tryd.func137, Tryd.ntmps137
      go_wp2_with fail
      refine (rchar_any _ _).mono ?_
      rintro e w1 ⟨rfl, rfl⟩
      go_wp2_with fail
      refine (six_any _ _ (c) _ (by omega) (by omega) (by omega) (by omega) (by omega)).mono ?_
      rintro e w1 ⟨rfl, rfl⟩
      go_wp2
      go_ret2
      exact ⟨ret_sb (by rw [E.out]), (Below.refl _ _).alloc (Nat.le_refl _) _⟩
    · by_cases c3 : c < 65536
      · have E : Hid (G.putN c = [224 + c / 4096, 128 + c / 64 % 64, 128 + c % 64]) := by show _ = _; simp [G.putN, c1, c2, c3]
        have hv := conv_lit w 2 [224 + c / 4096, 128 + c / 64 % 64, 128 + c % 64] rfl (by omega)
        simp only [List.map_cons, List.map_nil, Nat.reduceAdd] at hv
        go_enter Tryd.func137, Tryd.ntmps137
        go_wp2_with fail
        refine (rchar_any _ _).mono ?_
        rintro e w1 ⟨rfl, rfl⟩
        go_wp2_with fail
        refine (six_any _ _ (c / 64) _ (by omega) (by omega) (by omega) (by omega) (by omega)).mono ?_
        rintro e w1 ⟨rfl, rfl⟩
        go_wp2_with fail
        refine (six_any _ _ (c) _ (by omega) (by omega) (by omega) (by omega) (by omega)).mono ?_
        rintro e w1 ⟨rfl, rfl⟩
        go_wp2
        go_ret2
        exact ⟨ret_sb (by rw [E.out]), (Below.refl _ _).alloc (Nat.le_refl _) _⟩
      · have E : Hid (G.putN c = [240 + c / 262144, 128 + c / 4096 % 64, 128 + c / 64 % 64, 128 + c % 64]) := by show _ = _; simp [G.putN, c1, c2, c3]
        have hv := conv_lit w 3 [240 + c / 262144, 128 + c / 4096 % 64, 128 + c / 64 % 64, 128 + c % 64] rfl (by omega)
        simp only [List.map_cons, List.map_nil, Nat.reduceAdd] at hv
        go_enter Tryd.func137, Tryd.ntmps137
        go_wp2_with fail
        refine (rchar_any _ _).mono ?_
        rintro e w1 ⟨rfl, rfl⟩
        go_wp2_with fail
        refine (six_any _ _ (c / 4096) _ (by omega) (by omega) (by omega) (by omega) (by omega)).mono ?_
        rintro e w1 ⟨rfl, rfl⟩
        go_wp2_with fail
        refine (six_any _ _ (c / 64) _ (by omega) (by omega) (by omega) (by omega) (by omega)).mono ?_
        rintro e w1 ⟨rfl, rfl⟩
        go_wp2_with fail
        refine (six_any _ _ (c) _ (by omega) (by omega) (by omega) (by omega) (by omega)).mono ?_
        rintro e w1 ⟨rfl, rfl⟩
        go_wp2
        go_ret2
        exact ⟨ret_sb (by rw [E.out]), (Below.refl _ _).alloc (Nat.le_refl _) _⟩

end Go.Proofs.YtmgemdhpjibdiaaDoor
