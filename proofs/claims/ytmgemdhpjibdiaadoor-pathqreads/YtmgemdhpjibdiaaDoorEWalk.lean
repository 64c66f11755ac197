/- The walks of escape.named, instead, peek and digit: each tells the plain function's answer; nothing is written. -/
import Derived.Test.YtmgemdhpjibdiaaDoorEPlain
import Derived.Test.YtmgemdhpjibdiaaDoorGCount
namespace Go.Proofs.YtmgemdhpjibdiaaDoor
open Go.RowKit
theorem ret_s {a b : ByteArray} (h : a = b) : Ending.returned (.string a) = .returned (.string b) := by rw [h]
theorem ret_i32 {a b : Int} (h : a = b) : Ending.returned (.int .i32 a) = .returned (.int .i32 b) := by rw [h]

set_option maxHeartbeats 400000 in
theorem named_any (c : Int) (r : ByteArray) (w : World) (H : Hid ((⟨(E.namedL c).toArray⟩ : ByteArray) = r)) :
    Calls Tryd.prog 152 #[.int .i32 c] w fun e w' => e = .returned (.string r) ∧ w' = w := by
  go_enter Tryd.func152, Tryd.ntmps152
  go_wp2
  all_goals
    go_ret
    refine ⟨ret_s ?_, rfl⟩
    rw [← H.out]
    try simp only [beq_iff_eq, beq_eq_false_iff_ne, ne_eq] at *
    simp [E.namedL, E.amp, E.lt, E.gt, E.quot, E.apos, *]

set_option maxHeartbeats 400000 in
theorem digit_any (c : Int) (w : World) (h0 : -1 ≤ c) (h1 : c < 256) :
    Calls Tryd.prog 160 #[.int .i32 c] w fun e w' => e = .returned (.int .i32 (E.hexV c)) ∧ w' = w := by
  go_enter Tryd.func160, Tryd.ntmps160
  go_wp2
  all_goals
    go_ret
    refine ⟨ret_i32 ?_, rfl⟩
    unfold E.hexV
    repeat (first | split | omega)

set_option maxRecDepth 100000 in
set_option maxHeartbeats 400000 in
theorem peek_any (s : ByteArray) (k : Nat) (w : World) :
    Calls Tryd.prog 159 #[.string s, .int .i64 (k : Int)] w fun e w' => e = .returned (.int .i32 (E.peekV s.data.toList k)) ∧ w' = w := by
  by_cases h : k < s.size
  · have HE : Hid (E.peekV s.data.toList k = (s[k].toNat : Int)) := by
      show _ = _
      rw [E.peek_lt (by simpa using h), at_eq s k h]
    have u0 : (s[k].toNat : Int) < 256 := by have := s[k].toNat_lt; omega
    go_enter Tryd.func159, Tryd.ntmps159
    go_wp2
    go_ret
    exact ⟨ret_i32 HE.out.symm, rfl⟩
  · have HE : Hid (E.peekV s.data.toList k = -1) := by
      show _ = _
      rw [E.peek_ge (by simpa using h)]
    go_enter Tryd.func159, Tryd.ntmps159
    go_wp2
    go_ret
    exact ⟨ret_i32 HE.out.symm, rfl⟩

set_option maxRecDepth 100000 in
set_option maxHeartbeats 400000 in
theorem instead_any (c : Int) (v : Bool) (r : ByteArray) (w : World) (H : Hid ((⟨(E.insteadL c v).toArray⟩ : ByteArray) = r)) :
    Calls Tryd.prog 142 #[.int .i32 c, .bool v] w fun e w' => e = .returned (.string r) ∧ w' = w := by
  by_cases n1 : c = 38 ∨ c = 60 ∨ c = 62
  · have HN : Hid ((⟨(E.namedL c).toArray⟩ : ByteArray) = r) := by
      show _ = _
      rw [← H.out]
      rcases n1 with rfl | rfl | rfl <;> rfl
    rcases n1 with rfl | rfl | rfl
    all_goals
      go_enter Tryd.func142, Tryd.ntmps142
      go_wp2_with fail
      refine (named_any _ r _ HN).mono ?_
      rintro e w1 ⟨rfl, rfl⟩
      go_wp2
      go_ret
      exact ⟨rfl, rfl⟩
  by_cases n2 : c = 13
  · subst n2
    have HN : Hid (r = ⟨#[38, 35, 49, 51, 59]⟩) := by show _ = _; rw [← H.out]; rfl
    go_enter Tryd.func142, Tryd.ntmps142
    go_wp2
    go_ret
    exact ⟨ret_s HN.out.symm, rfl⟩
  have b1 : (c == 38) = false := beq_eq_false_iff_ne.2 (by omega)
  have b2 : (c == 60) = false := beq_eq_false_iff_ne.2 (by omega)
  have b3 : (c == 62) = false := beq_eq_false_iff_ne.2 (by omega)
  have b4 : (c == 13) = false := beq_eq_false_iff_ne.2 (by omega)
  have E0 : Hid (E.insteadL c v = if v = false then [] else if c = 34 then E.quot else if c = 9 then E.r9 else if c = 10 then E.r10 else []) := by
    show _ = _
    unfold E.insteadL
    rw [if_neg (by omega), if_neg (by omega), if_neg (by omega), if_neg n2]
  cases v
  · have HN : Hid (r = ⟨#[]⟩) := by show _ = _; rw [← H.out, E0.out]; rfl
    go_enter Tryd.func142, Tryd.ntmps142
    go_wp2
    go_ret
    exact ⟨ret_s HN.out.symm, rfl⟩
  by_cases n3 : c = 34
  · subst n3
    have HN : Hid ((⟨(E.namedL 34).toArray⟩ : ByteArray) = r) := by show _ = _; rw [← H.out, E0.out]; rfl
    go_enter Tryd.func142, Tryd.ntmps142
    go_wp2_with fail
    refine (named_any _ r _ HN).mono ?_
    rintro e w1 ⟨rfl, rfl⟩
    go_wp2
    go_ret
    exact ⟨rfl, rfl⟩
  by_cases n4 : c = 9
  · subst n4
    have HN : Hid (r = ⟨#[38, 35, 57, 59]⟩) := by show _ = _; rw [← H.out, E0.out]; rfl
    go_enter Tryd.func142, Tryd.ntmps142
    go_wp2
    go_ret
    exact ⟨ret_s HN.out.symm, rfl⟩
  by_cases n5 : c = 10
  · subst n5
    have HN : Hid (r = ⟨#[38, 35, 49, 48, 59]⟩) := by show _ = _; rw [← H.out, E0.out]; rfl
    go_enter Tryd.func142, Tryd.ntmps142
    go_wp2
    go_ret
    exact ⟨ret_s HN.out.symm, rfl⟩
  · have HN : Hid (r = ⟨#[]⟩) := by
      show _ = _
      rw [← H.out, E0.out, if_neg (by simp), if_neg n3, if_neg n4, if_neg n5]
    have b5 : (c == 34) = false := beq_eq_false_iff_ne.2 (by omega)
    have b6 : (c == 9) = false := beq_eq_false_iff_ne.2 (by omega)
    have b7 : (c == 10) = false := beq_eq_false_iff_ne.2 (by omega)
    go_enter Tryd.func142, Tryd.ntmps142
    go_wp2
    go_ret
    exact ⟨ret_s HN.out.symm, rfl⟩
end Go.Proofs.YtmgemdhpjibdiaaDoor
