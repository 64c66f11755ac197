/- The walks of glyph.Put, of the document's own six and Put: a character's bytes, or none. -/
import Derived.Test.YtmnegpdegfianaaDoorGLay
import Derived.Test.YtmnegpdegfianaaDoorGText
import Derived.Test.YtmnegpdegfianaaDoorGKinds
namespace Go.Proofs.YtmnegpdegfianaaDoor
open Go.RowKit
theorem ret_sb {s t : ByteArray} {b : Bool} (h : s = t) : Ending.returned (.tuple #[.string s, .bool b]) = .returned (.tuple #[.string t, .bool b]) := by rw [h]

set_option maxRecDepth 100000 in
set_option maxHeartbeats 400000 in
theorem six_any (c f d : Int) (w : World) (h0 : 0 ≤ c) (h1 : c ≤ 1114111) (hf : 1 ≤ f) (hf2 : f ≤ 4096) (hd : c / f = d) :
    Calls Tryd.prog 117 #[.int .i32 c, .int .i32 f] w fun e w' => e = .returned (.int .u8 (128 + d % 64)) ∧ w' = w := by
  have hd1 : 0 ≤ c / f := Int.ediv_nonneg h0 (by omega)
  have hd2 : c / f ≤ c := Int.ediv_le_self _ h0
  have Hd : Hid (c / f = d) := hd
  clear hd
  go_enter Tryd.func117, Tryd.ntmps117
  go_wp2
  go_ret
  refine ⟨?_, rfl⟩
  refine congrArg (fun n => Ending.returned (.int .u8 n)) ?_
  rw [← Hd.out]

theorem rput_no (c : Int) (w : World) (hc : G.charB c = false) :
    Calls Tryd.prog 91 #[.int .i32 c] w fun e w' => e = .returned (.tuple #[.string ⟨#[]⟩, .bool false]) ∧ Below w.heap.size w w' := by
  go_enter Tryd.func91, Tryd.ntmps91
  go_wp2_with fail
  refine (rchar_any _ _).mono ?_
  rintro e w1 ⟨rfl, rfl⟩
  go_wp2
  go_ret2
  exact ⟨rfl, Below.refl _ _⟩

theorem conv_lit (w : World) (n : Nat) (xs : List Int) (h : xs.length = n + 1) (hn : n ≤ 3) :
    (convert 56 9 (.slice (some ⟨w.heap.size, 0, none⟩) (n + 1) (n + 1))).run Tryd.prog (w.alloc (.cells (xs.map (Value.int .u8)).toArray 5)) = .ok (.string (strOfNums xs)) (w.alloc (.cells (xs.map (Value.int .u8)).toArray 5)) :=
  G.lay_end (base := w.heap.size) (by simpa using World.ownsRow_lit (base := w.heap.size) (e := 5) (size := 1) w (xs.map (Value.int .u8)).toArray (n + 1) (Nat.le_refl _) (by unfold maxLen; omega) (by simp [h]))

set_option maxRecDepth 100000 in
set_option maxHeartbeats 400000 in
theorem rput_yes (c : Int) (w : World) (hc : G.charB c = true) :
    Calls Tryd.prog 91 #[.int .i32 c] w fun e w' => e = .returned (.tuple #[.string (strOfNums (G.putN c)), .bool true]) ∧ Below w.heap.size w w' := by
  have hr := G.char_range c hc
  obtain ⟨hr1, hr2⟩ := hr
  by_cases c1 : c < 128
  · have E : Hid (G.putN c = [c]) := by show _ = _; simp [G.putN, c1]
    have hv := conv_lit w 0 [c] rfl (by omega)
    simp only [List.map_cons, List.map_nil, Nat.zero_add] at hv
    go_enter Tryd.func91, Tryd.ntmps91
    go_wp2_with fail
    refine (rchar_any _ _).mono ?_
    rintro e w1 ⟨rfl, rfl⟩
    go_wp2
    go_ret2
    exact ⟨ret_sb (by rw [E.out]), (Below.refl _ _).alloc (Nat.le_refl _) _⟩
  · by_cases c2 : c < 2048
    · have E : Hid (G.putN c = [192 + c / 64, 128 + c % 64]) := by show _ = _; simp [G.putN, c1, c2]
      have hv := conv_lit w 1 [192 + c / 64, 128 + c % 64] rfl (by omega)
      simp only [List.map_cons, List.map_nil, Nat.reduceAdd] at hv
      go_enter Tryd.func91, Tryd.ntmps91
      go_wp2_with fail
      refine (rchar_any _ _).mono ?_
      rintro e w1 ⟨rfl, rfl⟩
      go_wp2_with fail
      refine (six_any _ _ (c) _ (by omega) (by omega) (by omega) (by omega) (by omega)).mono ?_
      rintro e w1 ⟨rfl, rfl⟩
      go_wp2
      go_ret2
      exact ⟨ret_sb (by rw [E.out]), (Below.refl _ _).alloc (Nat.le_refl _) _⟩
    · by_cases c3 : c < 65536
      · have E : Hid (G.putN c = [224 + c / 4096, 128 + c / 64 % 64, 128 + c % 64]) := by show _ = _; simp [G.putN, c1, c2, c3]
        have hv := conv_lit w 2 [224 + c / 4096, 128 + c / 64 % 64, 128 + c % 64] rfl (by omega)
        simp only [List.map_cons, List.map_nil, Nat.reduceAdd] at hv
        go_enter Tryd.func91, Tryd.ntmps91
        go_wp2_with fail
        refine (rchar_any _ _).mono ?_
        rintro e w1 ⟨rfl, rfl⟩
        go_wp2_with fail
        refine (six_any _ _ (c / 64) _ (by omega) (by omega) (by omega) (by omega) (by omega)).mono ?_
        rintro e w1 ⟨rfl, rfl⟩
        go_wp2_with fail
        refine (six_any _ _ (c) _ (by omega) (by omega) (by omega) (by omega) (by omega)).mono ?_
        rintro e w1 ⟨rfl, rfl⟩
        go_wp2
        go_ret2
        exact ⟨ret_sb (by rw [E.out]), (Below.refl _ _).alloc (Nat.le_refl _) _⟩
      · have E : Hid (G.putN c = [240 + c / 262144, 128 + c / 4096 % 64, 128 + c / 64 % 64, 128 + c % 64]) := by show _ = _; simp [G.putN, c1, c2, c3]
        have hv := conv_lit w 3 [240 + c / 262144, 128 + c / 4096 % 64, 128 + c / 64 % 64, 128 + c % 64] rfl (by omega)
        simp only [List.map_cons, List.map_nil, Nat.reduceAdd] at hv
        go_enter Tryd.func91, Tryd.ntmps91
        go_wp2_with fail
        refine (rchar_any _ _).mono ?_
        rintro e w1 ⟨rfl, rfl⟩
        go_wp2_with fail
        refine (six_any _ _ (c / 4096) _ (by omega) (by omega) (by omega) (by omega) (by omega)).mono ?_
        rintro e w1 ⟨rfl, rfl⟩
        go_wp2_with fail
        refine (six_any _ _ (c / 64) _ (by omega) (by omega) (by omega) (by omega) (by omega)).mono ?_
        rintro e w1 ⟨rfl, rfl⟩
        go_wp2_with fail
        refine (six_any _ _ (c) _ (by omega) (by omega) (by omega) (by omega) (by omega)).mono ?_
        rintro e w1 ⟨rfl, rfl⟩
        go_wp2
        go_ret2
        exact ⟨ret_sb (by rw [E.out]), (Below.refl _ _).alloc (Nat.le_refl _) _⟩

end Go.Proofs.YtmnegpdegfianaaDoor
