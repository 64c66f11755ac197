/- The walk of escape.reference, which leads on by goto: it tells the reference that a text, whose first byte is &, begins with. Nothing is written. -/
import Derived.Test.YtmgemdhpjibdiaaDoorEWalk
import Derived.Test.YtmgemdhpjibdiaaDoorEScope
import Derived.Test.YtmgemdhpjibdiaaDoorEShelf
import Derived.WalkMore
namespace Go.Proofs.YtmgemdhpjibdiaaDoor
open Go.RowKit
theorem hid {p : Prop} (h : p) : Hid p := h
theorem ret_ri {a b : Int} {n m : Int} (h : a = b) (k : n = m) : Ending.returned (.tuple #[.int .i32 a, .int .i64 n]) = .returned (.tuple #[.int .i32 b, .int .i64 m]) := by rw [h, k]

set_option maxRecDepth 100000 in
set_option maxHeartbeats 400000 in
theorem ref_none (s : ByteArray) (w : World) (p1 : Int) (h1 : Hid (E.peekV s.data.toList 1 = p1)) (x0 : (p1 == 35) = false) (x1 : (p1 == 97) = false) (x2 : (p1 == 108) = false) (x3 : (p1 == 103) = false) (x4 : (p1 == 113) = false) :
    Calls Tryd.prog 150 #[.string s] w fun e w' => e = .returned (.tuple #[.int .i32 0, .int .i64 0]) ∧ w' = w := by
  go_enter Tryd.func150, Tryd.ntmps150
  go_wp2_with fail
  refine scope_named fun F HF => ?_
  refine wp_scope_land F HF.out 4 2 (fun _ _ => False) (fun _ _ => 0) ((congrFun HF.out 4).trans rfl) ?_ (fun _ _ h => h.elim)
  go_wp2_with fail
  refine (peek_any _ 1 _).mono ?_
  rintro e w1 ⟨rfl, rfl⟩
  rw [h1.out]
  go_wp2_with fail
  go_step3
  refine Or.inr ⟨_, (congrFun HF.out 2).trans rfl, ?_⟩
  go_wp2
  rw [landQ_other _ (by simp)]
  go_ret2
  exact ⟨rfl, rfl⟩

set_option maxRecDepth 100000 in
set_option maxHeartbeats 400000 in
theorem ref_l (s : ByteArray) (w : World) (b : Bool) (h1 : Hid (E.peekV s.data.toList 1 = 108)) (hp : Hid (E.preB E.lt s.data.toList = b)) :
    Calls Tryd.prog 150 #[.string s] w fun e w' => e = .returned (.tuple #[.int .i32 (bif b then 60 else 0), .int .i64 (bif b then 4 else 0)]) ∧ w' = w := by
  have hn : Hid ((⟨(E.namedL 60).toArray⟩ : ByteArray) = ⟨#[38, 108, 116, 59]⟩) := by show _ = _; rfl
  go_enter Tryd.func150, Tryd.ntmps150
  go_wp2_with fail
  refine scope_named fun F HF => ?_
  refine wp_scope_land F HF.out 4 2 (fun _ _ => False) (fun _ _ => 0) ((congrFun HF.out 4).trans rfl) ?_ (fun _ _ h => h.elim)
  go_wp2_with fail
  refine (peek_any _ 1 _).mono ?_
  rintro e w1 ⟨rfl, rfl⟩
  rw [h1.out]
  go_wp2_with fail
  go_step3
  refine Or.inr ⟨_, (congrFun HF.out 3).trans rfl, ?_⟩
  go_wp2_with fail
  refine (named_any _ ⟨#[38, 108, 116, 59]⟩ _ hn).mono ?_
  rintro e w1 ⟨rfl, rfl⟩
  go_wp2_with fail
  refine (prefix_any s ⟨#[38, 108, 116, 59]⟩ _).mono ?_
  rintro e w1 ⟨rfl, rfl⟩
  rw [show Lib.hasPrefix s.data.toList (⟨#[38, 108, 116, 59]⟩ : ByteArray).data.toList = b from hp.out]
  cases b
  · go_wp2_with fail
    go_step3
    refine Or.inr ⟨_, (congrFun HF.out 2).trans rfl, ?_⟩
    go_wp2
    rw [landQ_other _ (by simp)]
    go_ret2
    exact ⟨rfl, rfl⟩
  · go_wp2_with fail
    refine (named_any _ ⟨#[38, 108, 116, 59]⟩ _ hn).mono ?_
    rintro e w1 ⟨rfl, rfl⟩
    go_wp2
    rw [landQ_other _ (by simp)]
    go_ret2
    exact ⟨rfl, rfl⟩

set_option maxRecDepth 100000 in
set_option maxHeartbeats 400000 in
theorem ref_g (s : ByteArray) (w : World) (b : Bool) (h1 : Hid (E.peekV s.data.toList 1 = 103)) (hp : Hid (E.preB E.gt s.data.toList = b)) :
    Calls Tryd.prog 150 #[.string s] w fun e w' => e = .returned (.tuple #[.int .i32 (bif b then 62 else 0), .int .i64 (bif b then 4 else 0)]) ∧ w' = w := by
  have hn : Hid ((⟨(E.namedL 62).toArray⟩ : ByteArray) = ⟨#[38, 103, 116, 59]⟩) := by show _ = _; rfl
  go_enter Tryd.func150, Tryd.ntmps150
  go_wp2_with fail
  refine scope_named fun F HF => ?_
  refine wp_scope_land F HF.out 4 2 (fun _ _ => False) (fun _ _ => 0) ((congrFun HF.out 4).trans rfl) ?_ (fun _ _ h => h.elim)
  go_wp2_with fail
  refine (peek_any _ 1 _).mono ?_
  rintro e w1 ⟨rfl, rfl⟩
  rw [h1.out]
  go_wp2_with fail
  go_step3
  refine Or.inr ⟨_, (congrFun HF.out 3).trans rfl, ?_⟩
  go_wp2_with fail
  refine (named_any _ ⟨#[38, 103, 116, 59]⟩ _ hn).mono ?_
  rintro e w1 ⟨rfl, rfl⟩
  go_wp2_with fail
  refine (prefix_any s ⟨#[38, 103, 116, 59]⟩ _).mono ?_
  rintro e w1 ⟨rfl, rfl⟩
  rw [show Lib.hasPrefix s.data.toList (⟨#[38, 103, 116, 59]⟩ : ByteArray).data.toList = b from hp.out]
  cases b
  · go_wp2_with fail
    go_step3
    refine Or.inr ⟨_, (congrFun HF.out 2).trans rfl, ?_⟩
    go_wp2
    rw [landQ_other _ (by simp)]
    go_ret2
    exact ⟨rfl, rfl⟩
  · go_wp2_with fail
    refine (named_any _ ⟨#[38, 103, 116, 59]⟩ _ hn).mono ?_
    rintro e w1 ⟨rfl, rfl⟩
    go_wp2
    rw [landQ_other _ (by simp)]
    go_ret2
    exact ⟨rfl, rfl⟩

set_option maxRecDepth 100000 in
set_option maxHeartbeats 400000 in
theorem ref_q (s : ByteArray) (w : World) (b : Bool) (h1 : Hid (E.peekV s.data.toList 1 = 113)) (hp : Hid (E.preB E.quot s.data.toList = b)) :
    Calls Tryd.prog 150 #[.string s] w fun e w' => e = .returned (.tuple #[.int .i32 (bif b then 34 else 0), .int .i64 (bif b then 6 else 0)]) ∧ w' = w := by
  have hn : Hid ((⟨(E.namedL 34).toArray⟩ : ByteArray) = ⟨#[38, 113, 117, 111, 116, 59]⟩) := by show _ = _; rfl
  go_enter Tryd.func150, Tryd.ntmps150
  go_wp2_with fail
  refine scope_named fun F HF => ?_
  refine wp_scope_land F HF.out 4 2 (fun _ _ => False) (fun _ _ => 0) ((congrFun HF.out 4).trans rfl) ?_ (fun _ _ h => h.elim)
  go_wp2_with fail
  refine (peek_any _ 1 _).mono ?_
  rintro e w1 ⟨rfl, rfl⟩
  rw [h1.out]
  go_wp2_with fail
  go_step3
  refine Or.inr ⟨_, (congrFun HF.out 3).trans rfl, ?_⟩
  go_wp2_with fail
  refine (named_any _ ⟨#[38, 113, 117, 111, 116, 59]⟩ _ hn).mono ?_
  rintro e w1 ⟨rfl, rfl⟩
  go_wp2_with fail
  refine (prefix_any s ⟨#[38, 113, 117, 111, 116, 59]⟩ _).mono ?_
  rintro e w1 ⟨rfl, rfl⟩
  rw [show Lib.hasPrefix s.data.toList (⟨#[38, 113, 117, 111, 116, 59]⟩ : ByteArray).data.toList = b from hp.out]
  cases b
  · go_wp2_with fail
    go_step3
    refine Or.inr ⟨_, (congrFun HF.out 2).trans rfl, ?_⟩
    go_wp2
    rw [landQ_other _ (by simp)]
    go_ret2
    exact ⟨rfl, rfl⟩
  · go_wp2_with fail
    refine (named_any _ ⟨#[38, 113, 117, 111, 116, 59]⟩ _ hn).mono ?_
    rintro e w1 ⟨rfl, rfl⟩
    go_wp2
    rw [landQ_other _ (by simp)]
    go_ret2
    exact ⟨rfl, rfl⟩

set_option maxRecDepth 100000 in
set_option maxHeartbeats 400000 in
theorem ref_am (s : ByteArray) (w : World) (b : Bool) (h1 : Hid (E.peekV s.data.toList 1 = 97)) (h2 : Hid (E.peekV s.data.toList 2 = 109)) (hp : Hid (E.preB E.amp s.data.toList = b)) :
    Calls Tryd.prog 150 #[.string s] w fun e w' => e = .returned (.tuple #[.int .i32 (bif b then 38 else 0), .int .i64 (bif b then 5 else 0)]) ∧ w' = w := by
  have hn : Hid ((⟨(E.namedL 38).toArray⟩ : ByteArray) = ⟨#[38, 97, 109, 112, 59]⟩) := by show _ = _; rfl
  go_enter Tryd.func150, Tryd.ntmps150
  go_wp2_with fail
  refine scope_named fun F HF => ?_
  refine wp_scope_land F HF.out 4 2 (fun _ _ => False) (fun _ _ => 0) ((congrFun HF.out 4).trans rfl) ?_ (fun _ _ h => h.elim)
  go_wp2_with fail
  refine (peek_any _ 1 _).mono ?_
  rintro e w1 ⟨rfl, rfl⟩
  rw [h1.out]
  go_wp2_with fail
  go_step3
  refine Or.inr ⟨_, (congrFun HF.out 1).trans rfl, ?_⟩
  go_wp2_with fail
  refine (peek_any _ 2 _).mono ?_
  rintro e w1 ⟨rfl, rfl⟩
  rw [h2.out]
  go_wp2_with fail
  go_step3
  go_wp2_with fail
  refine (named_any _ ⟨#[38, 97, 109, 112, 59]⟩ _ hn).mono ?_
  rintro e w1 ⟨rfl, rfl⟩
  go_wp2_with fail
  refine (prefix_any s ⟨#[38, 97, 109, 112, 59]⟩ _).mono ?_
  rintro e w1 ⟨rfl, rfl⟩
  rw [show Lib.hasPrefix s.data.toList (⟨#[38, 97, 109, 112, 59]⟩ : ByteArray).data.toList = b from hp.out]
  cases b
  · go_wp2_with fail
    go_step3
    refine Or.inr ⟨_, (congrFun HF.out 2).trans rfl, ?_⟩
    go_wp2
    rw [landQ_other _ (by simp)]
    go_ret2
    exact ⟨rfl, rfl⟩
  · go_wp2_with fail
    refine (named_any _ ⟨#[38, 97, 109, 112, 59]⟩ _ hn).mono ?_
    rintro e w1 ⟨rfl, rfl⟩
    go_wp2
    rw [landQ_other _ (by simp)]
    go_ret2
    exact ⟨rfl, rfl⟩

set_option maxRecDepth 100000 in
set_option maxHeartbeats 400000 in
theorem ref_ap (s : ByteArray) (w : World) (b : Bool) (h1 : Hid (E.peekV s.data.toList 1 = 97)) (h2 : Hid (E.peekV s.data.toList 2 = 112)) (hp : Hid (E.preB E.apos s.data.toList = b)) :
    Calls Tryd.prog 150 #[.string s] w fun e w' => e = .returned (.tuple #[.int .i32 (bif b then 39 else 0), .int .i64 (bif b then 6 else 0)]) ∧ w' = w := by
  have hn : Hid ((⟨(E.namedL 39).toArray⟩ : ByteArray) = ⟨#[38, 97, 112, 111, 115, 59]⟩) := by show _ = _; rfl
  go_enter Tryd.func150, Tryd.ntmps150
  go_wp2_with fail
  refine scope_named fun F HF => ?_
  refine wp_scope_land F HF.out 4 2 (fun _ _ => False) (fun _ _ => 0) ((congrFun HF.out 4).trans rfl) ?_ (fun _ _ h => h.elim)
  go_wp2_with fail
  refine (peek_any _ 1 _).mono ?_
  rintro e w1 ⟨rfl, rfl⟩
  rw [h1.out]
  go_wp2_with fail
  go_step3
  refine Or.inr ⟨_, (congrFun HF.out 1).trans rfl, ?_⟩
  go_wp2_with fail
  refine (peek_any _ 2 _).mono ?_
  rintro e w1 ⟨rfl, rfl⟩
  rw [h2.out]
  go_wp2_with fail
  go_step3
  go_wp2_with fail
  refine (named_any _ ⟨#[38, 97, 112, 111, 115, 59]⟩ _ hn).mono ?_
  rintro e w1 ⟨rfl, rfl⟩
  go_wp2_with fail
  refine (prefix_any s ⟨#[38, 97, 112, 111, 115, 59]⟩ _).mono ?_
  rintro e w1 ⟨rfl, rfl⟩
  rw [show Lib.hasPrefix s.data.toList (⟨#[38, 97, 112, 111, 115, 59]⟩ : ByteArray).data.toList = b from hp.out]
  cases b
  · go_wp2_with fail
    go_step3
    refine Or.inr ⟨_, (congrFun HF.out 2).trans rfl, ?_⟩
    go_wp2
    rw [landQ_other _ (by simp)]
    go_ret2
    exact ⟨rfl, rfl⟩
  · go_wp2_with fail
    refine (named_any _ ⟨#[38, 97, 112, 111, 115, 59]⟩ _ hn).mono ?_
    rintro e w1 ⟨rfl, rfl⟩
    go_wp2
    rw [landQ_other _ (by simp)]
    go_ret2
    exact ⟨rfl, rfl⟩

set_option maxRecDepth 100000 in
set_option maxHeartbeats 400000 in
theorem ref_a (s : ByteArray) (w : World) (p2 : Int) (h1 : Hid (E.peekV s.data.toList 1 = 97)) (h2 : Hid (E.peekV s.data.toList 2 = p2)) (x0 : (p2 == 109) = false) (x1 : (p2 == 112) = false) :
    Calls Tryd.prog 150 #[.string s] w fun e w' => e = .returned (.tuple #[.int .i32 0, .int .i64 0]) ∧ w' = w := by
  go_enter Tryd.func150, Tryd.ntmps150
  go_wp2_with fail
  refine scope_named fun F HF => ?_
  refine wp_scope_land F HF.out 4 2 (fun _ _ => False) (fun _ _ => 0) ((congrFun HF.out 4).trans rfl) ?_ (fun _ _ h => h.elim)
  go_wp2_with fail
  refine (peek_any _ 1 _).mono ?_
  rintro e w1 ⟨rfl, rfl⟩
  rw [h1.out]
  go_wp2_with fail
  go_step3
  refine Or.inr ⟨_, (congrFun HF.out 1).trans rfl, ?_⟩
  go_wp2_with fail
  refine (peek_any _ 2 _).mono ?_
  rintro e w1 ⟨rfl, rfl⟩
  rw [h2.out]
  go_wp2_with fail
  go_step3
  refine Or.inr ⟨_, (congrFun HF.out 2).trans rfl, ?_⟩
  go_wp2
  rw [landQ_other _ (by simp)]
  go_ret2
  exact ⟨rfl, rfl⟩

/-- What holds at each jump back: the number of the digits that were read, and where it stands. -/
def refJ (base : Int) (off : Nat) (s : ByteArray) (w : World) (a' : Act) (w' : World) : Prop :=
  w' = w ∧ ∃ (p : Nat) (c : Int) (u4 u8 u1 u5 u9 u10 u11 u12 u13 u14 u15 u16 u17 u18 u19 u20 u21 u22 u23 u24 u25 u26 u27 u28 u29 u30 u31 u32 u33 u34 u35 u36 u37 u38 u39 u40 u41 u42 u43 u44 u45 u46 u47 u48 u49 u50 u51 u52 u53 u54 u55 u56 u57 u58 u59 u60 u61 u62 u63 u64 u65 u66 u67 u68 u69 : Value), a' = { tmps := #[.string s, u1, .int .i32 0, .int .i64 0, u4, u5, .int .i32 base, .int .i64 (off : Int), u8, u9, u10, u11, u12, u13, u14, u15, u16, u17, u18, u19, u20, u21, u22, u23, u24, u25, u26, u27, u28, u29, u30, u31, u32, u33, u34, u35, u36, u37, u38, u39, u40, u41, u42, u43, u44, u45, u46, u47, u48, u49, u50, u51, u52, u53, u54, u55, u56, u57, u58, u59, u60, u61, u62, u63, u64, u65, u66, u67, u68, u69], defers := [] } ∧ u4 = .int .i32 c ∧ u8 = .int .i64 (p : Int) ∧ off ≤ p ∧ p ≤ off + 7 ∧ 0 ≤ c ∧ c < 268435456 ∧ Hid (E.valD base s.data.toList off (p - off) = c ∧ E.allD base s.data.toList off (p - off) = true)

set_option maxRecDepth 100000 in
set_option maxHeartbeats 1000000 in
theorem ref_ten (s : ByteArray) (w : World) (r : Int) (n : Nat) (p2 : Int) (h1 : Hid (E.peekV s.data.toList 1 = 35)) (h2 : Hid (E.peekV s.data.toList 2 = p2)) (x0 : (p2 == 120) = false) (H : Hid (E.numL 10 2 s.data.toList = (r, n))) :
    Calls Tryd.prog 150 #[.string s] w fun e w' => e = .returned (.tuple #[.int .i32 r, .int .i64 (n : Int)]) ∧ w' = w := by
  go_enter Tryd.func150, Tryd.ntmps150
  go_wp2_with fail
  refine scope_named fun F HF => ?_
  refine wp_scope_lands F HF.out 4 2 (refJ 10 2 s w) (fun a' _ => 100 - (intOf (a'.tmps.getD 8 undef)).toNat) ((congrFun HF.out 4).trans rfl) ?pass ?first
  case first =>
    intro again
    have AG := hid again
    clear again
    go_wp2_with fail
    refine (peek_any _ 1 _).mono ?_
    rintro e w1 ⟨rfl, rfl⟩
    rw [h1.out]
    go_wp2_with fail
    go_step3
    refine Or.inr ⟨_, (congrFun HF.out 0).trans rfl, ?_⟩
    go_wp2_with fail
    refine (peek_any _ 2 _).mono ?_
    rintro e w1 ⟨rfl, rfl⟩
    rw [h2.out]
    go_wp2_with fail
    go_step3
    rename_i hK
    refine hK _ _ (AG.out _ _ _ ?_)
    exact ⟨rfl, 2, 0, _, _, _, _, _, _, _, _, _, _, _, _, _, _, _, _, _, _, _, _, _, _, _, _, _, _, _, _, _, _, _, _, _, _, _, _, _, _, _, _, _, _, _, _, _, _, _, _, _, _, _, _, _, _, _, _, _, _, _, _, _, _, _, _, _, rfl, rfl, rfl, by omega, by omega, by omega, by omega, ⟨rfl, rfl⟩⟩
  case pass =>
    rintro m a' w' ⟨rfl, p, c, _, _, u1, u5, u9, u10, u11, u12, u13, u14, u15, u16, u17, u18, u19, u20, u21, u22, u23, u24, u25, u26, u27, u28, u29, u30, u31, u32, u33, u34, u35, u36, u37, u38, u39, u40, u41, u42, u43, u44, u45, u46, u47, u48, u49, u50, u51, u52, u53, u54, u55, u56, u57, u58, u59, u60, u61, u62, u63, u64, u65, u66, u67, u68, u69, rfl, rfl, rfl, pl, ph, c0, c1, HK⟩
    obtain ⟨pv, hpv⟩ : ∃ pv, Hid (E.peekV s.data.toList p = pv) := ⟨_, rfl⟩
    have pr := E.peek_range s.data.toList p
    rw [hpv.out] at pr
    obtain ⟨pr0, pr1⟩ := pr
    obtain ⟨d, hd⟩ : ∃ d, Hid (E.hexV pv = d) := ⟨_, rfl⟩
    have dr := E.hex_range pv
    rw [hd.out] at dr
    obtain ⟨dr0, dr1⟩ := dr
    have po : 2 + (p - 2) = p := by omega
    have PO := hid po
    clear po
    go_wp2_with fail
    refine (peek_any _ p _).mono ?_
    rintro e w1 ⟨rfl, rfl⟩
    rw [hpv.out]
    go_wp2_with fail
    refine (digit_any _ _ pr0 pr1).mono ?_
    rintro e w1 ⟨rfl, rfl⟩
    rw [hd.out]
    by_cases go_on : d < 10 ∧ p < 9
    · obtain ⟨db, pt⟩ := go_on
      have cb : c < 16777216 := by
        have q1 := (E.valD_bound 10 (by omega) (by omega) s.data.toList 2 (p - 2) HK.out.2).2
        rw [HK.out.1] at q1
        have q2 := E.pow10 (p - 2) (by omega)
        omega
      have e1 : E.valD 10 s.data.toList 2 (p + 1 - 2) = c * 10 + d := by
        rw [show p + 1 - 2 = p - 2 + 1 by omega, E.valD, HK.out.1, PO.out, hpv.out, hd.out]
      have e2 : E.allD 10 s.data.toList 2 (p + 1 - 2) = true := by
        rw [show p + 1 - 2 = p - 2 + 1 by omega, E.allD, HK.out.2, PO.out, hpv.out, hd.out]
        simp [db]
      have E12 : Hid (E.valD 10 s.data.toList 2 (p + 1 - 2) = c * 10 + d ∧ E.allD 10 s.data.toList 2 (p + 1 - 2) = true) := ⟨e1, e2⟩
      clear e1 e2
      go_wp2_with fail
      go_step3
      refine landQ_jump _ ⟨⟨rfl, p + 1, c * 10 + d, _, _, _, _, _, _, _, _, _, _, _, _, _, _, _, _, _, _, _, _, _, _, _, _, _, _, _, _, _, _, _, _, _, _, _, _, _, _, _, _, _, _, _, _, _, _, _, _, _, _, _, _, _, _, _, _, _, _, _, _, _, _, _, _, _, rfl, by go_num, by go_num, by omega, by omega, by omega, by omega, E12⟩, ?_⟩
      simp [intOf]; omega
    · have stop : 10 ≤ d ∨ p - 2 = 7 := by omega
      have ST : Hid (10 ≤ E.hexV (E.peekV s.data.toList (2 + (p - 2))) ∨ p - 2 = 7) := by
        show _ ∨ _
        rw [PO.out, hpv.out, hd.out]; exact stop
      clear stop
      by_cases semi : 2 < p ∧ pv = 59
      · obtain ⟨ps, rfl⟩ := semi
        have HY : Hid (E.numL 10 2 s.data.toList = (c, p + 1)) := by
          show _ = _
          rw [E.num_yes (k := p - 2) (by omega) (by omega) (E.numB_iff.2 ⟨by omega, HK.out.2, by rw [PO.out]; exact hpv.out⟩), HK.out.1, PO.out]
        obtain ⟨rfl, rfl⟩ := E.pair_eq H.out HY.out
        by_cases db : d < 10
        · have pt : ¬ p < 9 := fun h => go_on ⟨db, h⟩
          clear go_on
          go_wp2_with fail
          refine (peek_any _ p _).mono ?_
          rintro e w1 ⟨rfl, rfl⟩
          rw [hpv.out]
          go_wp2
          rw [landQ_other _ (by simp)]
          go_ret2
          exact ⟨ret_ri rfl (by omega), rfl⟩
        · clear go_on
          go_wp2_with fail
          refine (peek_any _ p _).mono ?_
          rintro e w1 ⟨rfl, rfl⟩
          rw [hpv.out]
          go_wp2
          rw [landQ_other _ (by simp)]
          go_ret2
          exact ⟨ret_ri rfl (by omega), rfl⟩
      · have HY : Hid (E.numL 10 2 s.data.toList = (0, 0)) := by
          refine E.num_stop (by omega) HK.out.2 (by omega) ?_ ST.out
          by_cases q : 2 < p
          · exact .inr (by rw [PO.out, hpv.out]; exact fun z => semi ⟨q, z⟩)
          · exact .inl (by omega)
        obtain ⟨rfl, rfl⟩ := E.pair_eq H.out HY.out
        by_cases db : d < 10
        · have pt : ¬ p < 9 := fun h => go_on ⟨db, h⟩
          have sb : (pv == 59) = false := beq_eq_false_iff_ne.2 fun z => semi ⟨by omega, z⟩
          clear go_on semi
          go_wp2_with fail
          refine (peek_any _ p _).mono ?_
          rintro e w1 ⟨rfl, rfl⟩
          rw [hpv.out]
          go_wp2_with fail
          go_step3
          go_wp2
          rw [landQ_other _ (by simp)]
          go_ret2
          exact ⟨rfl, rfl⟩
        · by_cases ps : 2 < p
          · have sb : (pv == 59) = false := beq_eq_false_iff_ne.2 fun z => semi ⟨by omega, z⟩
            clear go_on semi
            go_wp2_with fail
            refine (peek_any _ p _).mono ?_
            rintro e w1 ⟨rfl, rfl⟩
            rw [hpv.out]
            go_wp2_with fail
            go_step3
            go_wp2
            rw [landQ_other _ (by simp)]
            go_ret2
            exact ⟨rfl, rfl⟩
          · clear go_on semi
            go_wp2_with fail
            go_step3
            go_wp2
            rw [landQ_other _ (by simp)]
            go_ret2
            exact ⟨rfl, rfl⟩

set_option maxRecDepth 100000 in
set_option maxHeartbeats 1000000 in
theorem ref_hex (s : ByteArray) (w : World) (r : Int) (n : Nat) (p2 : Int) (h1 : Hid (E.peekV s.data.toList 1 = 35)) (h2 : Hid (E.peekV s.data.toList 2 = p2)) (x0 : (p2 == 120) = true) (H : Hid (E.numL 16 3 s.data.toList = (r, n))) :
    Calls Tryd.prog 150 #[.string s] w fun e w' => e = .returned (.tuple #[.int .i32 r, .int .i64 (n : Int)]) ∧ w' = w := by
  go_enter Tryd.func150, Tryd.ntmps150
  go_wp2_with fail
  refine scope_named fun F HF => ?_
  refine wp_scope_lands F HF.out 4 2 (refJ 16 3 s w) (fun a' _ => 100 - (intOf (a'.tmps.getD 8 undef)).toNat) ((congrFun HF.out 4).trans rfl) ?pass ?first
  case first =>
    intro again
    have AG := hid again
    clear again
    go_wp2_with fail
    refine (peek_any _ 1 _).mono ?_
    rintro e w1 ⟨rfl, rfl⟩
    rw [h1.out]
    go_wp2_with fail
    go_step3
    refine Or.inr ⟨_, (congrFun HF.out 0).trans rfl, ?_⟩
    go_wp2_with fail
    refine (peek_any _ 2 _).mono ?_
    rintro e w1 ⟨rfl, rfl⟩
    rw [h2.out]
    go_wp2_with fail
    go_step3
    rename_i hK
    refine hK _ _ (AG.out _ _ _ ?_)
    exact ⟨rfl, 3, 0, _, _, _, _, _, _, _, _, _, _, _, _, _, _, _, _, _, _, _, _, _, _, _, _, _, _, _, _, _, _, _, _, _, _, _, _, _, _, _, _, _, _, _, _, _, _, _, _, _, _, _, _, _, _, _, _, _, _, _, _, _, _, _, _, _, rfl, rfl, rfl, by omega, by omega, by omega, by omega, ⟨rfl, rfl⟩⟩
  case pass =>
    rintro m a' w' ⟨rfl, p, c, _, _, u1, u5, u9, u10, u11, u12, u13, u14, u15, u16, u17, u18, u19, u20, u21, u22, u23, u24, u25, u26, u27, u28, u29, u30, u31, u32, u33, u34, u35, u36, u37, u38, u39, u40, u41, u42, u43, u44, u45, u46, u47, u48, u49, u50, u51, u52, u53, u54, u55, u56, u57, u58, u59, u60, u61, u62, u63, u64, u65, u66, u67, u68, u69, rfl, rfl, rfl, pl, ph, c0, c1, HK⟩
    obtain ⟨pv, hpv⟩ : ∃ pv, Hid (E.peekV s.data.toList p = pv) := ⟨_, rfl⟩
    have pr := E.peek_range s.data.toList p
    rw [hpv.out] at pr
    obtain ⟨pr0, pr1⟩ := pr
    obtain ⟨d, hd⟩ : ∃ d, Hid (E.hexV pv = d) := ⟨_, rfl⟩
    have dr := E.hex_range pv
    rw [hd.out] at dr
    obtain ⟨dr0, dr1⟩ := dr
    have po : 3 + (p - 3) = p := by omega
    have PO := hid po
    clear po
    go_wp2_with fail
    refine (peek_any _ p _).mono ?_
    rintro e w1 ⟨rfl, rfl⟩
    rw [hpv.out]
    go_wp2_with fail
    refine (digit_any _ _ pr0 pr1).mono ?_
    rintro e w1 ⟨rfl, rfl⟩
    rw [hd.out]
    by_cases go_on : d < 16 ∧ p < 10
    · obtain ⟨db, pt⟩ := go_on
      have cb : c < 16777216 := by
        have q1 := (E.valD_bound 16 (by omega) (by omega) s.data.toList 3 (p - 3) HK.out.2).2
        rw [HK.out.1] at q1
        have q2 := E.pow16 (p - 3) (by omega)
        omega
      have e1 : E.valD 16 s.data.toList 3 (p + 1 - 3) = c * 16 + d := by
        rw [show p + 1 - 3 = p - 3 + 1 by omega, E.valD, HK.out.1, PO.out, hpv.out, hd.out]
      have e2 : E.allD 16 s.data.toList 3 (p + 1 - 3) = true := by
        rw [show p + 1 - 3 = p - 3 + 1 by omega, E.allD, HK.out.2, PO.out, hpv.out, hd.out]
        simp [db]
      have E12 : Hid (E.valD 16 s.data.toList 3 (p + 1 - 3) = c * 16 + d ∧ E.allD 16 s.data.toList 3 (p + 1 - 3) = true) := ⟨e1, e2⟩
      clear e1 e2
      go_wp2_with fail
      go_step3
      refine landQ_jump _ ⟨⟨rfl, p + 1, c * 16 + d, _, _, _, _, _, _, _, _, _, _, _, _, _, _, _, _, _, _, _, _, _, _, _, _, _, _, _, _, _, _, _, _, _, _, _, _, _, _, _, _, _, _, _, _, _, _, _, _, _, _, _, _, _, _, _, _, _, _, _, _, _, _, _, _, _, rfl, by go_num, by go_num, by omega, by omega, by omega, by omega, E12⟩, ?_⟩
      simp [intOf]; omega
    · have stop : 16 ≤ d ∨ p - 3 = 7 := by omega
      have ST : Hid (16 ≤ E.hexV (E.peekV s.data.toList (3 + (p - 3))) ∨ p - 3 = 7) := by
        show _ ∨ _
        rw [PO.out, hpv.out, hd.out]; exact stop
      clear stop
      by_cases semi : 3 < p ∧ pv = 59
      · obtain ⟨ps, rfl⟩ := semi
        have HY : Hid (E.numL 16 3 s.data.toList = (c, p + 1)) := by
          show _ = _
          rw [E.num_yes (k := p - 3) (by omega) (by omega) (E.numB_iff.2 ⟨by omega, HK.out.2, by rw [PO.out]; exact hpv.out⟩), HK.out.1, PO.out]
        obtain ⟨rfl, rfl⟩ := E.pair_eq H.out HY.out
        by_cases db : d < 16
        · have pt : ¬ p < 10 := fun h => go_on ⟨db, h⟩
          clear go_on
          go_wp2_with fail
          refine (peek_any _ p _).mono ?_
          rintro e w1 ⟨rfl, rfl⟩
          rw [hpv.out]
          go_wp2
          rw [landQ_other _ (by simp)]
          go_ret2
          exact ⟨ret_ri rfl (by omega), rfl⟩
        · clear go_on
          go_wp2_with fail
          refine (peek_any _ p _).mono ?_
          rintro e w1 ⟨rfl, rfl⟩
          rw [hpv.out]
          go_wp2
          rw [landQ_other _ (by simp)]
          go_ret2
          exact ⟨ret_ri rfl (by omega), rfl⟩
      · have HY : Hid (E.numL 16 3 s.data.toList = (0, 0)) := by
          refine E.num_stop (by omega) HK.out.2 (by omega) ?_ ST.out
          by_cases q : 3 < p
          · exact .inr (by rw [PO.out, hpv.out]; exact fun z => semi ⟨q, z⟩)
          · exact .inl (by omega)
        obtain ⟨rfl, rfl⟩ := E.pair_eq H.out HY.out
        by_cases db : d < 16
        · have pt : ¬ p < 10 := fun h => go_on ⟨db, h⟩
          have sb : (pv == 59) = false := beq_eq_false_iff_ne.2 fun z => semi ⟨by omega, z⟩
          clear go_on semi
          go_wp2_with fail
          refine (peek_any _ p _).mono ?_
          rintro e w1 ⟨rfl, rfl⟩
          rw [hpv.out]
          go_wp2_with fail
          go_step3
          go_wp2
          rw [landQ_other _ (by simp)]
          go_ret2
          exact ⟨rfl, rfl⟩
        · by_cases ps : 3 < p
          · have sb : (pv == 59) = false := beq_eq_false_iff_ne.2 fun z => semi ⟨by omega, z⟩
            clear go_on semi
            go_wp2_with fail
            refine (peek_any _ p _).mono ?_
            rintro e w1 ⟨rfl, rfl⟩
            rw [hpv.out]
            go_wp2_with fail
            go_step3
            go_wp2
            rw [landQ_other _ (by simp)]
            go_ret2
            exact ⟨rfl, rfl⟩
          · clear go_on semi
            go_wp2_with fail
            go_step3
            go_wp2
            rw [landQ_other _ (by simp)]
            go_ret2
            exact ⟨rfl, rfl⟩

end Go.Proofs.YtmgemdhpjibdiaaDoor
