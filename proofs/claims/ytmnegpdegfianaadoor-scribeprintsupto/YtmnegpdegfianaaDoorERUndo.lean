/- The walks of the document's own Undo, escaped, Text and Value over texts that are not too long: each tells the plain function's answer. -/
import Derived.Test.YtmnegpdegfianaaDoorERWalk
import Derived.Test.YtmnegpdegfianaaDoorGRAll
namespace Go.Proofs.YtmnegpdegfianaaDoor
open Go.RowKit
set_option maxRecDepth 100000 in
set_option maxHeartbeats 1000000 in
theorem rescaped_any (s : ByteArray) (v : Bool) (r : ByteArray) (b : Bool) (w : World) (hm : s.size ≤ 1048576) (H : Hid ((E.escL v s.data.toList).getD [] = r.data.toList ∧ (E.escL v s.data.toList).isSome = b)) :
    Calls Tryd.prog 64 #[.string s, .bool v] w fun e w' => e = .returned (.tuple #[.string r, .bool b]) ∧ Below w.heap.size w w' := by
  obtain ⟨o, HO⟩ : ∃ o, Hid (G.chars s.data.toList = o) := ⟨_, rfl⟩
  have HM : Hid (s.size ≤ 1048576) := by show _ ≤ _; omega
  go_enter Tryd.func64, Tryd.ntmps64
  go_wp2_with fail
  refine (all_any _ o _ HM.out HO).mono ?_
  rintro e w1 ⟨v0, rfl, hown, hb⟩
  cases o with
  | none =>
    have EN : Hid (E.escL v s.data.toList = none) := by show _ = _; unfold E.escL; rw [HO.out]; rfl
    have E1 : Hid (⟨#[]⟩ = r) := WideShapes.bytes_inj (by rw [← H.out.1, EN.out]; rfl)
    have E2 : Hid (false = b) := by show _ = _; rw [← H.out.2, EN.out]; rfl
    obtain ⟨cap, a, rfl⟩ : ∃ cap a, v0 = .slice a 0 cap := by
      obtain ⟨_, ⟨rfl, h0⟩ | ⟨g, cap, cur, rfl, _⟩⟩ := hown
      · exact ⟨0, none, rfl⟩
      · exact ⟨cap, _, rfl⟩
    clear hown
    go_wp2
    go_loop [8, 9] (fun v8 v9 => v8 = .string ⟨#[]⟩ ∧ v9 = .int .i64 0) (fun _ _ => 0)
    case atStart => exact ⟨rfl, rfl⟩
    case round =>
      obtain ⟨rfl, rfl⟩ := hrel
      go_wp2
      go_ret2
      exact ⟨ret_sb' E1.out E2.out, hb⟩
  | some cs =>
    obtain ⟨fl, ac⟩ := E.chars_flat _ s.data.toList cs (Nat.le_refl _) HO.out
    have cl : cs.length ≤ s.size := by have := G.chars_len _ s.data.toList cs (Nat.le_refl _) HO.out; simpa using this
    have AC := hid ac
    clear fl ac
    have EN : Hid (E.escL v s.data.toList = some (cs.flatMap (E.escC v))) := by show _ = _; unfold E.escL; rw [HO.out]; rfl
    have E2 : Hid (true = b) := by show _ = _; rw [← H.out.2, EN.out]; rfl
    have E1 : Hid (cs.flatMap (E.escC v) = r.data.toList) := by show _ = _; rw [← H.out.1, EN.out]; rfl
    have HW : Hid (∀ j, j < cs.length → ∃ g, v0.ownBlock = some g ∧ w1.cell? ⟨g, j, none⟩ = some (.int .i32 (cs.getD j 0)) ∧ g < w1.heap.size) := by
      intro j hj
      have hown' := hown
      obtain ⟨_, ⟨_, h0⟩ | ⟨g, cap, cur, rfl, _, hg, _⟩⟩ := hown
      · exact absurd (show cs.length = 0 from h0) (by omega)
      · refine ⟨g, rfl, ?_, (hown'.lt g rfl).2⟩
        have := hown'.cells (g := g) rfl j (.int .i32 (cs.getD j 0)) (by simp [List.getElem?_eq_getElem hj])
        rwa [show (⟨g, 0, none⟩ : Addr).add j = ⟨g, j, none⟩ by unfold Addr.add; split <;> simp_all] at this
    obtain ⟨cap, a, rfl, ha⟩ : ∃ cap a, v0 = .slice a cs.length cap ∧ (∀ g, v0.ownBlock = some g → a = some ⟨g, 0, none⟩) := by
      obtain ⟨_, ⟨rfl, h0⟩ | ⟨g, cap, cur, rfl, _⟩⟩ := hown
      · exact ⟨0, none, by rw [show cs.length = 0 from h0], fun g hg => by cases hg⟩
      · exact ⟨cap, _, rfl, fun g' hg => by cases hg; rfl⟩
    clear hown
    have HA := hid ha
    clear ha
    go_wp2
    go_loopw [8, 9] (fun v8 v9 W => ∃ (k : Nat) (q : ByteArray), v8 = .string q ∧ v9 = .int .i64 k ∧ k ≤ cs.length ∧ q.size ≤ 6 * k ∧ Hid (q.data.toList = (cs.take k).flatMap (E.escC v)) ∧ Below w1.heap.size w1 W) (fun _ v9 _ => cs.length - (intOf v9).toNat)
    case atStart => exact ⟨0, ⟨#[]⟩, rfl, rfl, by omega, by simp [ByteArray.size], by show _ = _; simp, Below.refl _ _⟩
    case round =>
      obtain ⟨k, q, rfl, rfl, hk, hq, HK, hbw⟩ := hrel
      by_cases klt : k < cs.length
      · obtain ⟨g, og, cg, lg⟩ := HW.out k klt
        obtain rfl := HA.out g og
        obtain ⟨c, hc⟩ : ∃ c, c = cs.getD k 0 := ⟨_, rfl⟩
        have ck : wr.cell? ⟨g, k, none⟩ = some (.int .i32 c) := (hbw.cell lg).trans (by rw [cg, hc])
        have ce : c = cs[k] := by rw [hc]; simp [klt]
        have CB : Hid (G.charB c = true) := by show _ = _; rw [ce]; exact AC.out _ (List.getElem_mem klt)
        have NX : Hid (∀ t : ByteArray, t.data.toList = E.escC v c → t.size ≤ 6 ∧ Hid ((q ++ t).data.toList = (cs.take (k + 1)).flatMap (E.escC v))) := by
          intro t ht
          have l6 := E.esc_len v c
          rw [← ht] at l6
          refine ⟨by simpa using l6, ?_⟩
          show _ = _
          rw [List.take_succ_eq_append_getElem klt, List.flatMap_append, ← HK.out, ← ce]
          simp [ht]
        clear cg og hc ce HK
        have hsw := hbw.size
        go_wp2_with fail
        refine (rput_yes _ _ CB.out).mono ?_
        rintro e w2 ⟨rfl, hb2⟩
        have hb3 : Below w1.heap.size w1 w2 := hbw.trans (hb2.mono hsw)
        have ck2 : w2.cell? ⟨g, k, none⟩ = some (.int .i32 c) := (hb2.cell (Nat.lt_of_lt_of_le lg hsw)).trans ck
        clear hbw hb2 hsw ck
        obtain ⟨t, HT⟩ : ∃ t, Hid (strOfNums (G.putN c) = t) := ⟨_, rfl⟩
        rw [HT.out]
        by_cases i0 : E.insteadL c v = []
        · obtain ⟨t6, NQ⟩ := NX.out t (by rw [E.esc_self i0, ← HT.out]; rfl)
          obtain ⟨s1, s2, s3, s4, s5⟩ := E.self_ne i0
          have b1 : (c == 38) = false := beq_eq_false_iff_ne.2 s1
          have b2 : (c == 60) = false := beq_eq_false_iff_ne.2 s2
          have b3 : (c == 62) = false := beq_eq_false_iff_ne.2 s3
          have b4 : (c == 13) = false := beq_eq_false_iff_ne.2 s4
          clear NX i0 s1 s2 s3 s4
          cases v
          · clear s5
            by_cases d1 : c = 34
            · subst d1
              go_wp2
              go_roundw
              case rel => exact ⟨k + 1, q ++ t, rfl, by go_num, by omega, by rw [ByteArray.size_append]; omega, NQ, hb3⟩
              case measure => simp [intOf]; omega
            by_cases d2 : c = 9
            · subst d2
              go_wp2
              go_roundw
              case rel => exact ⟨k + 1, q ++ t, rfl, by go_num, by omega, by rw [ByteArray.size_append]; omega, NQ, hb3⟩
              case measure => simp [intOf]; omega
            by_cases d3 : c = 10
            · subst d3
              go_wp2
              go_roundw
              case rel => exact ⟨k + 1, q ++ t, rfl, by go_num, by omega, by rw [ByteArray.size_append]; omega, NQ, hb3⟩
              case measure => simp [intOf]; omega
            · have b5 : (c == 34) = false := beq_eq_false_iff_ne.2 d1
              have b6 : (c == 9) = false := beq_eq_false_iff_ne.2 d2
              have b7 : (c == 10) = false := beq_eq_false_iff_ne.2 d3
              clear d1 d2 d3
              go_wp2
              go_roundw
              case rel => exact ⟨k + 1, q ++ t, rfl, by go_num, by omega, by rw [ByteArray.size_append]; omega, NQ, hb3⟩
              case measure => simp [intOf]; omega
          · obtain ⟨s6, s7, s8⟩ := s5 rfl
            have b5 : (c == 34) = false := beq_eq_false_iff_ne.2 s6
            have b6 : (c == 9) = false := beq_eq_false_iff_ne.2 s7
            have b7 : (c == 10) = false := beq_eq_false_iff_ne.2 s8
            clear s5 s6 s7 s8
            go_wp2
            go_roundw
            case rel => exact ⟨k + 1, q ++ t, rfl, by go_num, by omega, by rw [ByteArray.size_append]; omega, NQ, hb3⟩
            case measure => simp [intOf]; omega
        · have ic := E.instead_cases c v i0
          have eo := E.esc_other i0
          clear i0
          rcases ic with ⟨rfl, e⟩ | ⟨rfl, e⟩ | ⟨rfl, e⟩ | ⟨rfl, e⟩ | ⟨rfl, rfl, e⟩ | ⟨rfl, rfl, e⟩ | ⟨rfl, rfl, e⟩
          · obtain ⟨t6, NQ⟩ := NX.out ⟨#[38, 97, 109, 112, 59]⟩ (by rw [eo, e]; rfl)
            clear NX eo e
            go_wp2
            go_roundw
            case rel => exact ⟨k + 1, q ++ (⟨#[38, 97, 109, 112, 59]⟩ : ByteArray), rfl, by go_num, by omega, by rw [ByteArray.size_append]; omega, NQ, hb3⟩
            case measure => simp [intOf]; omega
          · obtain ⟨t6, NQ⟩ := NX.out ⟨#[38, 108, 116, 59]⟩ (by rw [eo, e]; rfl)
            clear NX eo e
            go_wp2
            go_roundw
            case rel => exact ⟨k + 1, q ++ (⟨#[38, 108, 116, 59]⟩ : ByteArray), rfl, by go_num, by omega, by rw [ByteArray.size_append]; omega, NQ, hb3⟩
            case measure => simp [intOf]; omega
          · obtain ⟨t6, NQ⟩ := NX.out ⟨#[38, 103, 116, 59]⟩ (by rw [eo, e]; rfl)
            clear NX eo e
            go_wp2
            go_roundw
            case rel => exact ⟨k + 1, q ++ (⟨#[38, 103, 116, 59]⟩ : ByteArray), rfl, by go_num, by omega, by rw [ByteArray.size_append]; omega, NQ, hb3⟩
            case measure => simp [intOf]; omega
          · obtain ⟨t6, NQ⟩ := NX.out ⟨#[38, 35, 49, 51, 59]⟩ (by rw [eo, e]; rfl)
            clear NX eo e
            go_wp2
            go_roundw
            case rel => exact ⟨k + 1, q ++ (⟨#[38, 35, 49, 51, 59]⟩ : ByteArray), rfl, by go_num, by omega, by rw [ByteArray.size_append]; omega, NQ, hb3⟩
            case measure => simp [intOf]; omega
          · obtain ⟨t6, NQ⟩ := NX.out ⟨#[38, 113, 117, 111, 116, 59]⟩ (by rw [eo, e]; rfl)
            clear NX eo e
            go_wp2
            go_roundw
            case rel => exact ⟨k + 1, q ++ (⟨#[38, 113, 117, 111, 116, 59]⟩ : ByteArray), rfl, by go_num, by omega, by rw [ByteArray.size_append]; omega, NQ, hb3⟩
            case measure => simp [intOf]; omega
          · obtain ⟨t6, NQ⟩ := NX.out ⟨#[38, 35, 57, 59]⟩ (by rw [eo, e]; rfl)
            clear NX eo e
            go_wp2
            go_roundw
            case rel => exact ⟨k + 1, q ++ (⟨#[38, 35, 57, 59]⟩ : ByteArray), rfl, by go_num, by omega, by rw [ByteArray.size_append]; omega, NQ, hb3⟩
            case measure => simp [intOf]; omega
          · obtain ⟨t6, NQ⟩ := NX.out ⟨#[38, 35, 49, 48, 59]⟩ (by rw [eo, e]; rfl)
            clear NX eo e
            go_wp2
            go_roundw
            case rel => exact ⟨k + 1, q ++ (⟨#[38, 35, 49, 48, 59]⟩ : ByteArray), rfl, by go_num, by omega, by rw [ByteArray.size_append]; omega, NQ, hb3⟩
            case measure => simp [intOf]; omega
      · have e : k = cs.length := by omega
        subst e
        have E3 : Hid (q = r) := WideShapes.bytes_inj (by rw [HK.out, List.take_length, E1.out])
        go_wp2
        go_ret2
        exact ⟨ret_sb' E3.out E2.out, hb.trans (hbw.mono hb.size)⟩

set_option maxHeartbeats 400000 in
theorem rtext_any (s : ByteArray) (r : ByteArray) (b : Bool) (w : World) (hm : s.size ≤ 1048576) (H : Hid ((E.escL false s.data.toList).getD [] = r.data.toList ∧ (E.escL false s.data.toList).isSome = b)) :
    Calls Tryd.prog 35 #[.string s] w fun e w' => e = .returned (.tuple #[.string r, .bool b]) ∧ Below w.heap.size w w' := by
  have HM := hid hm
  clear hm
  go_enter Tryd.func35, Tryd.ntmps35
  go_wp2_with fail
  refine (rescaped_any _ false r b _ HM.out H).mono ?_
  rintro e w1 ⟨rfl, hb⟩
  go_wp2
  go_ret2
  exact ⟨rfl, hb⟩

set_option maxHeartbeats 400000 in
theorem rvalue_any (s : ByteArray) (r : ByteArray) (b : Bool) (w : World) (hm : s.size ≤ 1048576) (H : Hid ((E.escL true s.data.toList).getD [] = r.data.toList ∧ (E.escL true s.data.toList).isSome = b)) :
    Calls Tryd.prog 65 #[.string s] w fun e w' => e = .returned (.tuple #[.string r, .bool b]) ∧ Below w.heap.size w w' := by
  have HM := hid hm
  clear hm
  go_enter Tryd.func65, Tryd.ntmps65
  go_wp2_with fail
  refine (rescaped_any _ true r b _ HM.out H).mono ?_
  rintro e w1 ⟨rfl, hb⟩
  go_wp2
  go_ret2
  exact ⟨rfl, hb⟩
end Go.Proofs.YtmnegpdegfianaaDoor
