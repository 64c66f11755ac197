/- Small laws that the texts of layer escape hold, for a seat without that layer. -/
import Derived.WalkKit
import Derived.Test.YtidccohjehegjaaDoorRows
import Derived.Laws.BytesArg
import Derived.WalkSpells
import Derived.WalkLawsBesides
import Derived.Test.YtidccohjehegjaaDoorK1
import Derived.Lib.Strings
import Derived.WalkMore
import Derived.Lib.OthersKept
import Derived.Shelf.Strings.BuilderK
namespace Go.Proofs.YtidccohjehegjaaDoor
namespace G
theorem wrap_i32 (n : Int) (h0 : 0 ≤ n) (h1 : n < 2147483648) : IntKind.i32.wrap n = n := by
  simp [IntKind.wrap, IntKind.bits, IntKind.signed]; omega
theorem ofInt_i32 (a : Nat) (ha : a < 2147483648) : (BitVec.ofInt 32 (a : Int)).toNat = a := by
  rw [BitVec.ofInt_natCast, BitVec.toNat_ofNat]; exact Nat.mod_eq_of_lt (by omega)
theorem i32_or_nat (a b : Nat) (ha : a < 2147483648) (hb : b < 2147483648) : bits .or .i32 (a : Int) (b : Int) = ((a ||| b : Nat) : Int) := by
  have hx : a ||| b < 2 ^ 31 := Nat.or_lt_two_pow (by omega) (by omega)
  show IntKind.i32.wrap ((BitVec.ofInt 32 (a : Int) ||| BitVec.ofInt 32 (b : Int)).toNat : Int) = _
  rw [BitVec.toNat_or, ofInt_i32 a ha, ofInt_i32 b hb, wrap_i32 _ (by omega) (by omega)]
theorem i32_and_nat (a b : Nat) (ha : a < 2147483648) (hb : b < 2147483648) : bits .and .i32 (a : Int) (b : Int) = ((a &&& b : Nat) : Int) := by
  have hx : a &&& b < 2 ^ 31 := Nat.and_lt_two_pow _ (by omega)
  show IntKind.i32.wrap ((BitVec.ofInt 32 (a : Int) &&& BitVec.ofInt 32 (b : Int)).toNat : Int) = _
  rw [BitVec.toNat_and, ofInt_i32 a ha, ofInt_i32 b hb, wrap_i32 _ (by omega) (by omega)]
theorem i32_join (i : Nat) (x y : Int) (hx : 0 ≤ x) (hx2 : x < 2147483648) (hm : x.toNat % 2 ^ i = 0) (hy : 0 ≤ y) (hy2 : y.toNat < 2 ^ i) (hy3 : y < 2147483648) : bits .or .i32 x y = x + y := by
  obtain ⟨A, rfl⟩ := Int.eq_ofNat_of_zero_le hx
  obtain ⟨B, rfl⟩ := Int.eq_ofNat_of_zero_le hy
  rw [i32_or_nat A B (by omega) (by omega), nat_join i A B (by simpa using hm) (by simpa using hy2)]
  omega
theorem and63 (n : Int) (h0 : 0 ≤ n) (h1 : n < 2147483648) : bits .and .i32 n 63 = n % 64 := by
  obtain ⟨A, rfl⟩ := Int.eq_ofNat_of_zero_le h0
  have := i32_and_nat A 63 (by omega) (by omega)
  rw [nat_mask6] at this
  simpa using this
theorem or128 (n : Int) : bits .or .i32 128 (n % 64) = 128 + n % 64 :=
  i32_join 7 128 (n % 64) (by omega) (by omega) (by decide) (by omega) (by omega) (by omega)
theorem layByte (n : Int) (h0 : 0 ≤ n) (h1 : n < 2147483648) : bits .or .i32 128 (bits .and .i32 n 63) % 256 = 128 + n % 64 := by
  rw [and63 n h0 h1, or128]; omega
theorem or192 (n : Int) (h0 : 0 ≤ n) (h1 : n < 64) : bits .or .i32 192 n = 192 + n :=
  i32_join 6 192 n (by omega) (by omega) (by decide) (by omega) (by omega) (by omega)
theorem or224 (n : Int) (h0 : 0 ≤ n) (h1 : n < 32) : bits .or .i32 224 n = 224 + n :=
  i32_join 5 224 n (by omega) (by omega) (by decide) (by omega) (by omega) (by omega)
theorem or240 (n : Int) (h0 : 0 ≤ n) (h1 : n < 16) : bits .or .i32 240 n = 240 + n :=
  i32_join 4 240 n (by omega) (by omega) (by decide) (by omega) (by omega) (by omega)
theorem or_shift (n x : Int) (h0 : 0 ≤ n) (h1 : n < 33554432) (h2 : 0 ≤ x) (h3 : x < 64) : bits .or .i32 (n * 64) x = n * 64 + x :=
  i32_join 6 (n * 64) x (by omega) (by omega) (by omega) (by omega) (by omega) (by omega)
theorem and224 (b : Int) (h0 : 0 ≤ b) (h : b < 256) : (bits .and .u8 b 224 == 192) = decide (192 ≤ b ∧ b < 224) := by
  obtain ⟨n, rfl⟩ := Int.eq_ofNat_of_zero_le h0
  have : ∀ n : Nat, n < 256 → (bits .and .u8 (n : Int) 224 == 192) = decide ((192 : Int) ≤ n ∧ (n : Int) < 224) := by decide +kernel
  exact this n (by omega)
theorem and240 (b : Int) (h0 : 0 ≤ b) (h : b < 256) : (bits .and .u8 b 240 == 224) = decide (224 ≤ b ∧ b < 240) := by
  obtain ⟨n, rfl⟩ := Int.eq_ofNat_of_zero_le h0
  have : ∀ n : Nat, n < 256 → (bits .and .u8 (n : Int) 240 == 224) = decide ((224 : Int) ≤ n ∧ (n : Int) < 240) := by decide +kernel
  exact this n (by omega)
theorem and248 (b : Int) (h0 : 0 ≤ b) (h : b < 256) : (bits .and .u8 b 248 == 240) = decide (240 ≤ b ∧ b < 248) := by
  obtain ⟨n, rfl⟩ := Int.eq_ofNat_of_zero_le h0
  have : ∀ n : Nat, n < 256 → (bits .and .u8 (n : Int) 248 == 240) = decide ((240 : Int) ≤ n ∧ (n : Int) < 248) := by decide +kernel
  exact this n (by omega)
theorem and192 (b : Int) (h0 : 0 ≤ b) (h : b < 256) : (bits .and .u8 b 192 != 128) = !decide (128 ≤ b ∧ b < 192) := by
  obtain ⟨n, rfl⟩ := Int.eq_ofNat_of_zero_le h0
  have : ∀ n : Nat, n < 256 → (bits .and .u8 (n : Int) 192 != 128) = !decide ((128 : Int) ≤ n ∧ (n : Int) < 192) := by decide +kernel
  exact this n (by omega)
end G
end Go.Proofs.YtidccohjehegjaaDoor
namespace Go.Proofs.YtidccohjehegjaaDoor
open Go.RowKit
theorem info_u8 : (Tryd.prog.info? 5).map (fun i => (i.zero, i.size, i.bytes)) = some (some (.int .u8 0), 1, 1) := by kernel_rfl
namespace G
def layTo (f : Int) (xs : List Int) (k : Nat) : List Int := (f % 256) :: (xs.take k).map (fun r => 128 + r % 64)
theorem layTo_len (f : Int) (xs : List Int) (k : Nat) (h : k ≤ xs.length) : (layTo f xs k).length = k + 1 := by simp [layTo]; omega
theorem layTo_succ (f : Int) (xs : List Int) (k : Nat) (h : k < xs.length) : layTo f xs (k + 1) = layTo f xs k ++ [128 + xs[k] % 64] := by
  unfold layTo
  rw [List.take_succ_eq_append_getElem h]
  simp only [List.map_append, List.map_cons, List.map_nil, List.cons_append]
theorem lay_end {w : World} {base : Nat} {v : Value} {n : Nat} {xs : List Int} (h : w.ownsRow base 5 1 v (n + 1) (xs.map (Value.int .u8))) :
    (convert 120 9 v).run Tryd.prog w = .ok (.string (strOfNums xs)) w := by
  obtain ⟨hl, ⟨_, h0⟩ | ⟨g, cap, cur, rfl, _, hg, hle, hm, hcur, ht⟩⟩ := h
  · omega
  · have hxl : xs.length = n + 1 := by simpa using hl
    refine run_convert_bytes_arg w 120 5 Tryd.underlying120 Tryd.underlying5 g 0 (n + 1) cap xs hxl ?_ 9 Tryd.underlying9
    intro i hi
    rw [cell_of_row w g (0 + i) cur _ _ hg]
    have := congrArg (fun l : List Value => l[i]?) ht
    simp [hi] at this
    rw [List.getElem?_eq_getElem (by omega)] at this
    simpa [List.getD, List.getElem?_eq_getElem (show i < xs.length by omega)] using this
end G

end Go.Proofs.YtidccohjehegjaaDoor
namespace Go.Proofs.YtidccohjehegjaaDoor
open Go.RowKit

/-- The table of ranges lies in the package variable's block, cell by cell. -/
structure Tab (w : World) : Prop where
  pos : 0 < w.heap.size
  use : ∀ k, k < 25 → w.cell? ⟨0, k * 3, none⟩ = some (.int .i64 (G.useAt k))
  low : ∀ k, k < 25 → w.cell? ⟨0, k * 3 + 1, none⟩ = some (.int .i32 (G.lowAt k))
  high : ∀ k, k < 25 → w.cell? ⟨0, k * 3 + 2, none⟩ = some (.int .i32 (G.highAt k))
theorem Tab.below {w w' : World} (h : Tab w) (b : Below w.heap.size w w') : Tab w' :=
  ⟨Nat.lt_of_lt_of_le h.pos b.size, fun k hk => (b.cell h.pos).trans (h.use k hk), fun k hk => (b.cell h.pos).trans (h.low k hk), fun k hk => (b.cell h.pos).trans (h.high k hk)⟩

set_option maxHeartbeats 400000 in
theorem within_any (c u : Int) (w : World) (ht : Tab w) :
    Calls Tryd.prog 77 #[.int .i32 c, .int .i64 u] w fun e w' => e = .returned (.bool (G.withinB c u)) ∧ Below w.heap.size w w' := by
  have Ht : Hid (Tab w) := ht
  clear ht
  go_enter Tryd.func77, Tryd.ntmps77
  go_wp2
  go_loopw [7] (fun i W => ∃ k : Nat, k ≤ 25 ∧ i = .int .i64 k ∧ G.anyTo c u k = false ∧ Below w.heap.size w W) (fun i _ => 25 - (intOf i).toNat)
  case atStart => exact ⟨0, by omega, rfl, rfl, Below.refl _ _⟩
  case round =>
    obtain ⟨k, hk, rfl, hn, hb⟩ := hrel
    have HN : Hid (G.anyTo c u k = false) := hn
    clear hn
    by_cases hlt : k < 25
    · have t := Ht.out.below hb
      have c0 := t.use k hlt
      have c1 := t.low k hlt
      have c2 := t.high k hlt
      clear t
      have hs := hb.size
      go_wp2
      · go_ret
        exact ⟨congrArg (fun b => Ending.returned (.bool b)) (G.within_hit c u k hlt ‹_› ‹_› ‹_›).symm, hb.alloc hs _⟩
      all_goals
        go_roundw
        case rel => exact ⟨k + 1, by omega, by go_num, G.any_miss c u k HN.out (by omega), hb.alloc hs _⟩
        case measure => simp [intOf]; omega
    · have e : k = 25 := by omega
      subst e
      have HN' : Hid (G.withinB c u = false) := HN.out
      clear HN
      go_wp2
      go_ret
      exact ⟨congrArg (fun b => Ending.returned (.bool b)) HN'.out.symm, hb⟩
end Go.Proofs.YtidccohjehegjaaDoor
namespace Go.Proofs.YtidccohjehegjaaDoor
open Go.RowKit

theorem ret_bool {a b : Bool} (h : a = b) : Ending.returned (.bool a) = .returned (.bool b) := by rw [h]

set_option maxHeartbeats 400000 in
theorem char_any (c : Int) (w : World) (ht : Tab w) :
    Calls Tryd.prog 76 #[.int .i32 c] w fun e w' => e = .returned (.bool (G.charB c)) ∧ Below w.heap.size w w' := by
  have Ht : Hid (Tab w) := ht
  clear ht
  go_enter Tryd.func76, Tryd.ntmps76
  go_wp2_with fail
  refine (within_any _ _ _ Ht.out).mono ?_
  rintro e w1 ⟨rfl, hb⟩
  go_wp2
  go_ret
  exact ⟨ret_bool (G.within0 c), hb⟩

set_option maxHeartbeats 400000 in
theorem start_any (c : Int) (w : World) (ht : Tab w) :
    Calls Tryd.prog 59 #[.int .i32 c] w fun e w' => e = .returned (.bool (G.startB c)) ∧ Below w.heap.size w w' := by
  have Ht : Hid (Tab w) := ht
  clear ht
  go_enter Tryd.func59, Tryd.ntmps59
  go_wp2_with fail
  refine (within_any _ _ _ Ht.out).mono ?_
  rintro e w1 ⟨rfl, hb⟩
  go_wp2
  go_ret
  exact ⟨ret_bool (G.within1 c), hb⟩

set_option maxHeartbeats 400000 in
theorem part_any (c : Int) (w : World) (ht : Tab w) :
    Calls Tryd.prog 60 #[.int .i32 c] w fun e w' => e = .returned (.bool (G.partB c)) ∧ Below w.heap.size w w' := by
  have Ht : Hid (Tab w) := ht
  clear ht
  have E : Hid ((G.withinB c 1 || G.withinB c 2) = G.partB c) := G.within2 c
  go_enter Tryd.func60, Tryd.ntmps60
  go_wp2_with fail
  refine (within_any _ _ _ Ht.out).mono ?_
  rintro e w1 ⟨rfl, hb⟩
  cases h1 : G.withinB c 1
  · have E1 : Hid (G.withinB c 2 = G.partB c) := by have := E.out; rw [h1] at this; exact this
    clear h1 E
    go_wp2_with fail
    refine (within_any _ _ _ (Ht.out.below hb)).mono ?_
    rintro e w2 ⟨rfl, hb2⟩
    go_wp2
    go_ret
    exact ⟨ret_bool E1.out, hb.trans (hb2.mono hb.size)⟩
  · have E1 : Hid (true = G.partB c) := by have := E.out; rw [h1] at this; exact this
    clear h1 E
    go_wp2_with fail
    go_ret
    exact ⟨ret_bool E1.out, hb⟩

set_option maxHeartbeats 1000000 in
theorem rchar_any (c : Int) (w : World) :
    Calls Tryd.prog 90 #[.int .i32 c] w fun e w' => e = .returned (.bool (G.charB c)) ∧ w' = w := by
  go_enter Tryd.func90, Tryd.ntmps90
  go_wp2
  all_goals
    go_ret
    refine ⟨ret_bool ?_, rfl⟩
    rw [Bool.eq_iff_iff]
    simp [G.charB]
    try simp only [beq_iff_eq, beq_eq_false_iff_ne, ne_eq] at *
    try omega

end Go.Proofs.YtidccohjehegjaaDoor
namespace Go.Proofs.YtidccohjehegjaaDoor
open Go.RowKit
theorem ret_sb {s t : ByteArray} {b : Bool} (h : s = t) : Ending.returned (.tuple #[.string s, .bool b]) = .returned (.tuple #[.string t, .bool b]) := by rw [h]

set_option maxRecDepth 100000 in
set_option maxHeartbeats 400000 in
theorem six_any (c f d : Int) (w : World) (h0 : 0 ≤ c) (h1 : c ≤ 1114111) (hf : 1 ≤ f) (hf2 : f ≤ 4096) (hd : c / f = d) :
    Calls Tryd.prog 91 #[.int .i32 c, .int .i32 f] w fun e w' => e = .returned (.int .u8 (128 + d % 64)) ∧ w' = w := by
  have hd1 : 0 ≤ c / f := Int.ediv_nonneg h0 (by omega)
  have hd2 : c / f ≤ c := Int.ediv_le_self _ h0
  have Hd : Hid (c / f = d) := hd
  clear hd
  go_enter Tryd.func91, Tryd.ntmps91
  go_wp2
  go_ret
  refine ⟨?_, rfl⟩
  refine congrArg (fun n => Ending.returned (.int .u8 n)) ?_
  rw [← Hd.out]

theorem rput_no (c : Int) (w : World) (hc : G.charB c = false) :
    Calls Tryd.prog 89 #[.int .i32 c] w fun e w' => e = .returned (.tuple #[.string ⟨#[]⟩, .bool false]) ∧ Below w.heap.size w w' := by
  go_enter Tryd.func89, Tryd.ntmps89
  go_wp2_with fail
  refine (rchar_any _ _).mono ?_
  rintro e w1 ⟨rfl, rfl⟩
  go_wp2
  go_ret2
  exact ⟨rfl, Below.refl _ _⟩

theorem conv_lit (w : World) (n : Nat) (xs : List Int) (h : xs.length = n + 1) (hn : n ≤ 3) :
    (convert 120 9 (.slice (some ⟨w.heap.size, 0, none⟩) (n + 1) (n + 1))).run Tryd.prog (w.alloc (.cells (xs.map (Value.int .u8)).toArray 5)) = .ok (.string (strOfNums xs)) (w.alloc (.cells (xs.map (Value.int .u8)).toArray 5)) :=
  G.lay_end (base := w.heap.size) (by simpa using World.ownsRow_lit (base := w.heap.size) (e := 5) (size := 1) w (xs.map (Value.int .u8)).toArray (n + 1) (Nat.le_refl _) (by unfold maxLen; omega) (by simp [h]))

set_option maxRecDepth 100000 in
set_option maxHeartbeats 400000 in
theorem rput_yes (c : Int) (w : World) (hc : G.charB c = true) :
    Calls Tryd.prog 89 #[.int .i32 c] w fun e w' => e = .returned (.tuple #[.string (strOfNums (G.putN c)), .bool true]) ∧ Below w.heap.size w w' := by
  have hr := G.char_range c hc
  obtain ⟨hr1, hr2⟩ := hr
  by_cases c1 : c < 128
  · have E : Hid (G.putN c = [c]) := by show _ = _; simp [G.putN, c1]
    have hv := conv_lit w 0 [c] rfl (by omega)
    simp only [List.map_cons, List.map_nil, Nat.zero_add] at hv
    go_enter Tryd.func89, Tryd.ntmps89
    go_wp2_with fail
    refine (rchar_any _ _).mono ?_
    rintro e w1 ⟨rfl, rfl⟩
    go_wp2
    go_ret2
    exact ⟨ret_sb (by rw [E.out]), (Below.refl _ _).alloc (Nat.le_refl _) _⟩
  · by_cases c2 : c < 2048
    · have E : Hid (G.putN c = [192 + c / 64, 128 + c % 64]) := by show _ = _; simp [G.putN, c1, c2]
      have hv := conv_lit w 1 [192 + c / 64, 128 + c % 64] rfl (by omega)
      simp only [List.map_cons, List.map_nil, Nat.reduceAdd] at hv
      go_enter Tryd.func89, Tryd.ntmps89
      go_wp2_with fail
      refine (rchar_any _ _).mono ?_
      rintro e w1 ⟨rfl, rfl⟩
      go_wp2_with fail
      refine (six_any _ _ (c) _ (by omega) (by omega) (by omega) (by omega) (by omega)).mono ?_
      rintro e w1 ⟨rfl, rfl⟩
      go_wp2
      go_ret2
      exact ⟨ret_sb (by rw [E.out]), (Below.refl _ _).alloc (Nat.le_refl _) _⟩
    · by_cases c3 : c < 65536
      · have E : Hid (G.putN c = [224 + c / 4096, 128 + c / 64 % 64, 128 + c % 64]) := by show _ = _; simp [G.putN, c1, c2, c3]
        have hv := conv_lit w 2 [224 + c / 4096, 128 + c / 64 % 64, 128 + c % 64] rfl (by omega)
        simp only [List.map_cons, List.map_nil, Nat.reduceAdd] at hv
        go_enter Tryd.func89, Tryd.ntmps89
        go_wp2_with fail
        refine (rchar_any _ _).mono ?_
        rintro e w1 ⟨rfl, rfl⟩
        go_wp2_with fail
        refine (six_any _ _ (c / 64) _ (by omega) (by omega) (by omega) (by omega) (by omega)).mono ?_
        rintro e w1 ⟨rfl, rfl⟩
        go_wp2_with fail
        refine (six_any _ _ (c) _ (by omega) (by omega) (by omega) (by omega) (by omega)).mono ?_
        rintro e w1 ⟨rfl, rfl⟩
        go_wp2
        go_ret2
        exact ⟨ret_sb (by rw [E.out]), (Below.refl _ _).alloc (Nat.le_refl _) _⟩
      · have E : Hid (G.putN c = [240 + c / 262144, 128 + c / 4096 % 64, 128 + c / 64 % 64, 128 + c % 64]) := by show _ = _; simp [G.putN, c1, c2, c3]
        have hv := conv_lit w 3 [240 + c / 262144, 128 + c / 4096 % 64, 128 + c / 64 % 64, 128 + c % 64] rfl (by omega)
        simp only [List.map_cons, List.map_nil, Nat.reduceAdd] at hv
        go_enter Tryd.func89, Tryd.ntmps89
        go_wp2_with fail
        refine (rchar_any _ _).mono ?_
        rintro e w1 ⟨rfl, rfl⟩
        go_wp2_with fail
        refine (six_any _ _ (c / 4096) _ (by omega) (by omega) (by omega) (by omega) (by omega)).mono ?_
        rintro e w1 ⟨rfl, rfl⟩
        go_wp2_with fail
        refine (six_any _ _ (c / 64) _ (by omega) (by omega) (by omega) (by omega) (by omega)).mono ?_
        rintro e w1 ⟨rfl, rfl⟩
        go_wp2_with fail
        refine (six_any _ _ (c) _ (by omega) (by omega) (by omega) (by omega) (by omega)).mono ?_
        rintro e w1 ⟨rfl, rfl⟩
        go_wp2
        go_ret2
        exact ⟨ret_sb (by rw [E.out]), (Below.refl _ _).alloc (Nat.le_refl _) _⟩

end Go.Proofs.YtidccohjehegjaaDoor
namespace Go.Proofs.YtidccohjehegjaaDoor
open Go.RowKit
theorem ret_ii {a b c d : Int} (h : a = b) (k : c = d) : Ending.returned (.tuple #[.int .i32 a, .int .i64 c]) = .returned (.tuple #[.int .i32 b, .int .i64 d]) := by rw [h, k]
theorem ret_lead {a b c : Int} {m : Nat} {h l : Int} (h1 : a = (m : Int)) (h2 : b = h) (h3 : c = l) : Ending.returned (.tuple #[.int .i64 a, .int .i32 b, .int .i32 c]) = .returned (.tuple #[.int .i64 (m : Int), .int .i32 h, .int .i32 l]) := by rw [h1, h2, h3]

set_option maxHeartbeats 400000 in
theorem lead_any (b : Int) (m : Nat) (h t : Int) (w : World) (hb : 0 ≤ b) (h1 : b < 256) (H : Hid (G.leadN b = (m, h, t))) :
    Calls Tryd.prog 75 #[.int .u8 b] w fun e w' => e = .returned (.tuple #[.int .i64 (m : Int), .int .i32 h, .int .i32 t]) ∧ w' = w := by
  have E1 : Hid ((bits .and .u8 b 224 == 192) = decide (192 ≤ b ∧ b < 224)) := G.and224 b hb h1
  have E2 : Hid ((bits .and .u8 b 240 == 224) = decide (224 ≤ b ∧ b < 240)) := G.and240 b hb h1
  have E3 : Hid ((bits .and .u8 b 248 == 240) = decide (240 ≤ b ∧ b < 248)) := G.and248 b hb h1
  go_enter Tryd.func75, Tryd.ntmps75
  go_wp2
  · go_ret3
    obtain ⟨rfl, rfl, rfl⟩ := G.lead_eq H.out (G.leadW1 b ‹_›)
    exact ⟨rfl, rfl⟩
  · go_ret3
    obtain ⟨rfl, rfl, rfl⟩ := G.lead_eq H.out (G.leadW2 b ((E1.out.symm.trans ‹_›)))
    exact ⟨rfl, rfl⟩
  · go_ret3
    obtain ⟨rfl, rfl, rfl⟩ := G.lead_eq H.out (G.leadW3 b ((E2.out.symm.trans ‹_›)))
    exact ⟨rfl, rfl⟩
  · go_ret3
    obtain ⟨rfl, rfl, rfl⟩ := G.lead_eq H.out (G.leadW4 b ((E3.out.symm.trans ‹_›)))
    exact ⟨rfl, rfl⟩
  · go_ret3
    obtain ⟨rfl, rfl, rfl⟩ := G.lead_eq H.out (G.leadW0 b ‹_› (E1.out.symm.trans ‹_›) (E2.out.symm.trans ‹_›) (E3.out.symm.trans ‹_›))
    exact ⟨rfl, rfl⟩

set_option maxHeartbeats 400000 in
theorem next_nil (w : World) :
    Calls Tryd.prog 58 #[.string ⟨#[]⟩] w fun e w' => e = .returned (.tuple #[.int .i32 0, .int .i64 0]) ∧ w' = w := by
  go_enter Tryd.func58, Tryd.ntmps58
  go_wp2
  go_ret2
  exact ⟨rfl, rfl⟩

theorem list_of_pos (s : ByteArray) (h : 0 < s.size) : s.data.toList ≠ [] := by
  intro e
  have : s.data.toList.length = s.size := by simp
  rw [e] at this
  simp at this
  omega
theorem ne_of_pos (s : ByteArray) (h : 0 < s.size) : s.toList.isEmpty = false := by
  rw [ByteArray.toList_eq]
  simpa using list_of_pos s h
theorem at_eq (s : ByteArray) (k : Nat) (h : k < s.size) : G.at' s.data.toList k = (s[k].toNat : Int) := by
  unfold G.at'
  rw [List.getD_eq_getElem?_getD, List.getElem?_eq_getElem (by simpa using h)]
  rfl

set_option maxRecDepth 100000 in
set_option maxHeartbeats 400000 in
theorem next_some (s : ByteArray) (c : Int) (n : Nat) (w : World) (ht : Tab w) (hs : 0 < s.size) (hm : s.size ≤ maxLen) (H : Hid (G.nextL s.data.toList = (c, n))) :
    Calls Tryd.prog 58 #[.string s] w fun e w' => e = .returned (.tuple #[.int .i32 c, .int .i64 (n : Int)]) ∧ Below w.heap.size w w' := by
  have Ht : Hid (Tab w) := ht
  clear ht
  unfold maxLen at hm
  have hne : s.toList.isEmpty = false := ne_of_pos s hs
  have A0 : Hid (G.at' s.data.toList 0 = (s[0].toNat : Int)) := at_eq s 0 hs
  have HL : Hid (s.data.toList ≠ []) := list_of_pos s hs
  obtain ⟨⟨m, h, t⟩, HE⟩ : ∃ p, Hid (G.leadN (G.at' s.data.toList 0) = p) := ⟨_, rfl⟩
  have HE2 : Hid (G.leadN (s[0].toNat : Int) = (m, h, t)) := by rw [← A0.out]; exact HE
  have ub := s[0].toNat_lt
  have hle : m ≤ 4 := by have := G.lead_le (G.at' s.data.toList 0); rw [HE.out] at this; exact this
  by_cases m0 : m = 0
  · subst m0
    obtain ⟨rfl, rfl⟩ := G.next_eq H.out (G.nextW_none HL.out HE.out (.inl rfl))
    go_enter Tryd.func58, Tryd.ntmps58
    go_wp2_with fail
    refine (lead_any _ 0 h t _ (by omega) (by omega) HE2).mono ?_
    rintro e w1 ⟨rfl, rfl⟩
    go_wp2
    go_ret2
    exact ⟨rfl, Below.refl _ _⟩
  · have b0 : ((m : Int) == 0) = false := by simp; exact m0
    by_cases ml : s.size < m
    · obtain ⟨rfl, rfl⟩ := G.next_eq H.out (G.nextW_none HL.out HE.out (.inr (by simpa using ml)))
      go_enter Tryd.func58, Tryd.ntmps58
      go_wp2_with fail
      refine (lead_any _ m h t _ (by omega) (by omega) HE2).mono ?_
      rintro e w1 ⟨rfl, rfl⟩
      go_wp2
      go_ret2
      exact ⟨rfl, Below.refl _ _⟩
    · go_enter Tryd.func58, Tryd.ntmps58
      go_wp2_with fail
      refine (lead_any _ m h t _ (by omega) (by omega) HE2).mono ?_
      rintro e w1 ⟨rfl, rfl⟩
      go_wp2_with fail
      go_loop [5, 7] (fun v i => ∃ k : Nat, 1 ≤ k ∧ k ≤ m ∧ i = .int .i64 k ∧ v = .int .i32 (G.valTo h s.data.toList k) ∧ G.contTo s.data.toList k = true) (fun _ i => 5 - (intOf i).toNat)
      case atStart => exact ⟨1, by omega, by omega, rfl, rfl, rfl⟩
      case round =>
        obtain ⟨k, k1, km, rfl, rfl, hc⟩ := hrel
        have HC : Hid (G.contTo s.data.toList k = true) := hc
        clear hc
        by_cases klt : k < m
        · have kb : k < s.size := by omega
          have vb := G.val_bound s.data.toList (G.at' s.data.toList 0) k k1 (by rw [HE.out]; exact klt)
          rw [HE.out] at vb
          obtain ⟨v0, v1⟩ := vb
          simp only at v0 v1
          have u0 : (s[k].toNat : Int) < 256 := by have := s[k].toNat_lt; omega
          have AK : Hid (G.at' s.data.toList k = (s[k].toNat : Int)) := at_eq s k kb
          have BK : Hid ((bits .and .u8 (s[k].toNat : Int) 192 != 128) = !G.contB s.data.toList k) := by
            unfold G.contB; rw [AK.out]; exact G.and192 _ (by omega) u0
          go_wp2
          · go_ret2
            have q : G.contB s.data.toList k = false := by
              have := BK.out.symm.trans ‹_›
              simpa using this
            obtain ⟨rfl, rfl⟩ := G.next_eq H.out (G.nextW_cont HL.out HE.out (by simp; omega) k k1 klt q)
            exact ⟨rfl, Below.refl _ _⟩
          · go_round
            case rel =>
              have q : G.contB s.data.toList k = true := by
                have := BK.out.symm.trans ‹_›
                simpa using this
              refine ⟨k + 1, by omega, by omega, by go_num, ?_, G.contTo_succ _ k HC.out q⟩
              refine congrArg (Value.int .i32) ?_
              rw [G.valTo_succ _ _ k k1, AK.out]
            case measure => simp [intOf]; omega
        · have e : k = m := by omega
          subst e
          have ht : k ≤ s.data.toList.length := by simp; omega
          by_cases vt : G.valTo h s.data.toList k < t
          · obtain ⟨rfl, rfl⟩ := G.next_eq H.out (G.nextW_bad HL.out HE.out m0 ht HC.out (.inl vt))
            clear ht
            go_wp2
            go_ret2
            exact ⟨rfl, Below.refl _ _⟩
          · generalize hv : G.valTo h s.data.toList k = v at vt ⊢
            have HV : Hid (G.valTo h s.data.toList k = v) := hv
            clear hv
            cases cb : G.charB v
            · obtain ⟨rfl, rfl⟩ := G.next_eq H.out (G.nextW_bad HL.out HE.out m0 ht HC.out (.inr (by rw [HV.out]; exact cb)))
              clear ht
              go_wp2_with fail
              refine (char_any _ _ Ht.out).mono ?_
              rintro e w2 ⟨rfl, hb⟩
              go_wp2
              go_ret2
              exact ⟨rfl, hb⟩
            · obtain ⟨rfl, rfl⟩ := G.next_eq H.out (G.nextW_ok HL.out HE.out m0 ht HC.out (by rw [HV.out]; omega) (by rw [HV.out]; exact cb))
              clear ht
              go_wp2_with fail
              refine (char_any _ _ Ht.out).mono ?_
              rintro e w2 ⟨rfl, hb⟩
              go_wp2
              go_ret2
              exact ⟨ret_ii HV.out.symm rfl, hb⟩
end Go.Proofs.YtidccohjehegjaaDoor
namespace Go.Proofs.YtidccohjehegjaaDoor
open Go.RowKit
theorem of_empty (s : ByteArray) (h : ¬ 0 < s.size) : s = ⟨#[]⟩ := by
  obtain ⟨d⟩ := s
  have : d.size = 0 := by
    have h2 : (ByteArray.mk d).size = d.size := rfl
    omega
  congr
  exact Array.eq_empty_of_size_eq_zero this

theorem emp_of (r : ByteArray) (h : ¬ 0 < r.size) : r.toList.isEmpty = true := by
  rw [of_empty r h, ByteArray.toList_eq]; rfl
theorem nil_of (r : ByteArray) (h : ¬ 0 < r.size) : r.data.toList = [] := by rw [of_empty r h]
theorem next_any (s : ByteArray) (c : Int) (n : Nat) (w : World) (ht : Tab w) (hm : s.size ≤ maxLen) (H : Hid (G.nextL s.data.toList = (c, n))) :
    Calls Tryd.prog 58 #[.string s] w fun e w' => e = .returned (.tuple #[.int .i32 c, .int .i64 (n : Int)]) ∧ Below w.heap.size w w' := by
  by_cases h : 0 < s.size
  · exact next_some s c n w ht h hm H
  · obtain rfl := of_empty s h
    obtain ⟨rfl, rfl⟩ := G.next_eq H.out (show G.nextL [] = (0, 0) from rfl)
    refine (next_nil w).mono ?_
    rintro e w1 ⟨rfl, rfl⟩
    exact ⟨rfl, Below.refl _ _⟩

theorem drop_eq (r : ByteArray) (n : Nat) : (r.extract n r.size).data.toList = r.data.toList.drop n := by
  rw [Lib.extract_data]
  exact List.take_of_length_le (by simp)
theorem size_drop (r : ByteArray) (n : Nat) : (r.extract n r.size).size = r.size - n := by simp
theorem ret_i64 {a b : Int} (h : a = b) : Ending.returned (.int .i64 a) = .returned (.int .i64 b) := by rw [h]

set_option maxRecDepth 100000 in
set_option maxHeartbeats 400000 in
theorem count_any (s : ByteArray) (z : Int) (w : World) (ht : Tab w) (hm : s.size ≤ maxLen) (HZ : Hid (G.countZ s.data.toList = z)) :
    Calls Tryd.prog 61 #[.string s] w fun e w' => e = .returned (.int .i64 z) ∧ Below w.heap.size w w' := by
  have Ht : Hid (Tab w) := ht
  clear ht
  have HM : Hid (s.size ≤ maxLen) := hm
  unfold maxLen at hm
  go_enter Tryd.func61, Tryd.ntmps61
  go_wp2
  go_loopw [0, 3] (fun v i W => ∃ (r : ByteArray) (k : Nat) (pre : List Int), v = .string r ∧ i = .int .i64 k ∧ k + r.size ≤ s.size ∧ Hid (pre.length = k ∧ G.chars s.data.toList = (G.chars r.data.toList).map (pre ++ ·)) ∧ Below w.heap.size w W) (fun v _ _ => match v with | .string r => r.size | _ => 0)
  case atStart => exact ⟨s, 0, [], rfl, rfl, by omega, ⟨rfl, by simp⟩, Below.refl _ _⟩
  case round =>
    obtain ⟨r, k, pre, rfl, rfl, hk, HR, hb⟩ := hrel
    by_cases h : 0 < r.size
    · have hne : r.toList.isEmpty = false := ne_of_pos r h
      have HL : Hid (r.data.toList ≠ []) := list_of_pos r h
      obtain ⟨⟨c, n⟩, HN⟩ : ∃ p, Hid (G.nextL r.data.toList = p) := ⟨_, rfl⟩
      have hn : n ≤ r.size := by have := G.next_le r.data.toList; rw [HN.out] at this; simpa using this
      by_cases n0 : n = 0
      · subst n0
        go_wp2_with fail
        refine (next_any _ c 0 _ (Ht.out.below hb) (by have := HM.out; omega) HN).mono ?_
        rintro e w1 ⟨rfl, hb1⟩
        go_wp2
        go_ret
        refine ⟨ret_i64 ?_, hb.trans (hb1.mono hb.size)⟩
        rw [← HZ.out]
        unfold G.countZ
        rw [HR.out.2, G.chars_none _ HL.out (by rw [HN.out])]
        rfl
      · have b0 : ((n : Int) == 0) = false := by simp; exact n0
        go_wp2_with fail
        refine (next_any _ c n _ (Ht.out.below hb) (by have := HM.out; omega) HN).mono ?_
        rintro e w1 ⟨rfl, hb1⟩
        go_wp2
        go_roundw
        case rel =>
          refine ⟨r.extract n r.size, k + 1, pre ++ [c], rfl, by go_num, by rw [size_drop]; omega, ⟨by simp [HR.out.1], ?_⟩, hb.trans (hb1.mono hb.size)⟩
          rw [HR.out.2, G.chars_cons _ HL.out (by rw [HN.out]; exact n0), HN.out, drop_eq]
          cases G.chars (r.data.toList.drop n) <;> simp
        case measure => simp; omega
    · have hz : r.size = 0 := by omega
      have hne : r.toList.isEmpty = true := emp_of r h
      have HL : Hid (r.data.toList = []) := nil_of r h
      go_wp2
      go_ret
      refine ⟨ret_i64 ?_, hb⟩
      rw [← HZ.out]
      unfold G.countZ
      rw [HR.out.2, HL.out, G.chars_nil]
      simp [HR.out.1]

set_option maxRecDepth 100000 in
set_option maxHeartbeats 400000 in
theorem name_any (s : ByteArray) (z : Bool) (w : World) (ht : Tab w) (hm : s.size ≤ maxLen) (HZ : Hid (G.nameB s.data.toList = z)) :
    Calls Tryd.prog 40 #[.string s] w fun e w' => e = .returned (.bool z) ∧ Below w.heap.size w w' := by
  have Ht : Hid (Tab w) := ht
  clear ht
  have HM : Hid (s.size ≤ maxLen) := hm
  unfold maxLen at hm
  by_cases big : 60 < s.size
  · go_enter Tryd.func40, Tryd.ntmps40
    go_wp2
    go_ret
    refine ⟨ret_bool ?_, Below.refl _ _⟩
    rw [← HZ.out]
    simp [G.nameB]
    intro; omega
  · obtain ⟨⟨c, n⟩, HN⟩ : ∃ p, Hid (G.nextL s.data.toList = p) := ⟨_, rfl⟩
    have E : Hid (z = (G.startB c && G.partsB s.data.toList)) := by
      show _ = _
      rw [← HZ.out]
      unfold G.nameB
      rw [HN.out]
      simp [show s.size ≤ 60 by omega]
    go_enter Tryd.func40, Tryd.ntmps40
    go_wp2_with fail
    refine (next_any _ c n _ Ht.out HM.out HN).mono ?_
    rintro e w1 ⟨rfl, hb1⟩
    go_wp2_with fail
    refine (start_any _ _ (Ht.out.below hb1)).mono ?_
    rintro e w2 ⟨rfl, hb2⟩
    have hb3 : Below w.heap.size w w2 := hb1.trans (hb2.mono hb1.size)
    clear hb1 hb2
    cases hst : G.startB c
    · have E1 : Hid (z = false) := by show _ = _; rw [E.out, hst]; rfl
      clear hst
      go_wp2
      go_ret
      exact ⟨ret_bool E1.out.symm, hb3⟩
    · have E1 : Hid (z = G.partsB s.data.toList) := by show _ = _; rw [E.out, hst]; rfl
      clear hst E HN
      go_wp2_with fail
      go_loopw [0] (fun v W => ∃ (r : ByteArray), v = .string r ∧ r.size ≤ s.size ∧ Hid (z = G.partsB r.data.toList) ∧ Below w.heap.size w W) (fun v _ => match v with | .string r => r.size | _ => 0)
      case atStart => exact ⟨s, rfl, Nat.le_refl _, E1, hb3⟩
      case round =>
        clear hb3 E1
        obtain ⟨r, rfl, hk, HR, hb⟩ := hrel
        by_cases h : 0 < r.size
        · have hne : r.toList.isEmpty = false := ne_of_pos r h
          have HL : Hid (r.data.toList ≠ []) := list_of_pos r h
          obtain ⟨⟨d, m⟩, HN⟩ : ∃ p, Hid (G.nextL r.data.toList = p) := ⟨_, rfl⟩
          have hn : m ≤ r.size := by have := G.next_le r.data.toList; rw [HN.out] at this; simpa using this
          have E2 : Hid (z = (G.partB d && G.partsB (r.data.toList.drop m))) := by
            show _ = _
            rw [HR.out, G.parts_cons _ HL.out, HN.out]
          have E3 : Hid (m = 0 → G.partB d = false) := by
            intro e
            have q := G.next_zero _ HL.out (by rw [HN.out]; exact e)
            rw [HN.out] at q
            simp only at q
            rw [q]; exact G.part_minus
          go_wp2_with fail
          refine (next_any _ d m _ (Ht.out.below hb) (by have := HM.out; omega) HN).mono ?_
          rintro e w3 ⟨rfl, hb3⟩
          have hb4 : Below w.heap.size w w3 := hb.trans (hb3.mono hb.size)
          clear hb3
          go_wp2_with fail
          refine (part_any _ _ (Ht.out.below hb4)).mono ?_
          rintro e w4 ⟨rfl, hb5⟩
          have hb6 : Below w.heap.size w w4 := hb4.trans (hb5.mono hb4.size)
          clear hb4 hb5
          cases hp : G.partB d
          · have E4 : Hid (z = false) := by show _ = _; rw [E2.out, hp]; rfl
            clear hp
            go_wp2
            go_ret
            exact ⟨ret_bool E4.out.symm, hb6⟩
          · have E4 : Hid (z = G.partsB (r.data.toList.drop m)) := by show _ = _; rw [E2.out, hp]; rfl
            have m0 : 0 < m := by
              by_cases q : m = 0
              · have := E3.out q; rw [hp] at this; cases this
              · omega
            clear hp
            go_wp2
            go_roundw
            case rel => exact ⟨r.extract m r.size, rfl, by rw [size_drop]; omega, by show _ = _; rw [drop_eq]; exact E4.out, hb6⟩
            case measure => simp; omega
        · have hz : r.size = 0 := by omega
          have hne : r.toList.isEmpty = true := emp_of r h
          have E4 : Hid (z = true) := by show _ = _; rw [HR.out, nil_of r h]; rfl
          go_wp2
          go_ret
          exact ⟨ret_bool E4.out.symm, hb⟩

end Go.Proofs.YtidccohjehegjaaDoor
namespace Go.Proofs.YtidccohjehegjaaDoor
open Go.RowKit
theorem hid {p : Prop} (h : p) : Hid p := h
theorem lt_of_block {w : World} {k : Nat} {o : Obj} (h : w.heap[k]? = some o) : k < w.heap.size := by
  rcases Nat.lt_or_ge k w.heap.size with q | q
  · exact q
  · simp [Array.getElem?_eq_none q] at h
end Go.Proofs.YtidccohjehegjaaDoor
