/- The walks of glyph.lead and glyph.Next: the character that a text begins with. -/
import Derived.Test.YtmgemdhpjibdiaaDoorGNextPlain
import Derived.Test.YtmgemdhpjibdiaaDoorGPut
namespace Go.Proofs.YtmgemdhpjibdiaaDoor
open Go.RowKit
theorem ret_ii {a b c d : Int} (h : a = b) (k : c = d) : Ending.returned (.tuple #[.int .i32 a, .int .i64 c]) = .returned (.tuple #[.int .i32 b, .int .i64 d]) := by rw [h, k]
theorem ret_lead {a b c : Int} {m : Nat} {h l : Int} (h1 : a = (m : Int)) (h2 : b = h) (h3 : c = l) : Ending.returned (.tuple #[.int .i64 a, .int .i32 b, .int .i32 c]) = .returned (.tuple #[.int .i64 (m : Int), .int .i32 h, .int .i32 l]) := by rw [h1, h2, h3]

set_option maxHeartbeats 400000 in
theorem lead_any (b : Int) (m : Nat) (h t : Int) (w : World) (hb : 0 ≤ b) (h1 : b < 256) (H : Hid (G.leadN b = (m, h, t))) :
    Calls Tryd.prog 110 #[.int .u8 b] w fun e w' => e = .returned (.tuple #[.int .i64 (m : Int), .int .i32 h, .int .i32 t]) ∧ w' = w := by
  have E1 : Hid ((bits .and .u8 b 224 == 192) = decide (192 ≤ b ∧ b < 224)) := G.and224 b hb h1
  have E2 : Hid ((bits .and .u8 b 240 == 224) = decide (224 ≤ b ∧ b < 240)) := G.and240 b hb h1
  have E3 : Hid ((bits .and .u8 b 248 == 240) = decide (240 ≤ b ∧ b < 248)) := G.and248 b hb h1
  go_enter Tryd.func110, Tryd.ntmps110
  go_wp2
  · go_ret3
    obtain ⟨rfl, rfl, rfl⟩ := G.lead_eq H.out (G.leadW1 b ‹_›)
    exact ⟨rfl, rfl⟩
  · go_ret3
    obtain ⟨rfl, rfl, rfl⟩ := G.lead_eq H.out (G.leadW2 b ((E1.out.symm.trans ‹_›)))
    exact ⟨rfl, rfl⟩
  · go_ret3
    obtain ⟨rfl, rfl, rfl⟩ := G.lead_eq H.out (G.leadW3 b ((E2.out.symm.trans ‹_›)))
    exact ⟨rfl, rfl⟩
  · go_ret3
    obtain ⟨rfl, rfl, rfl⟩ := G.lead_eq H.out (G.leadW4 b ((E3.out.symm.trans ‹_›)))
    exact ⟨rfl, rfl⟩
  · go_ret3
    obtain ⟨rfl, rfl, rfl⟩ := G.lead_eq H.out (G.leadW0 b ‹_› (E1.out.symm.trans ‹_›) (E2.out.symm.trans ‹_›) (E3.out.symm.trans ‹_›))
    exact ⟨rfl, rfl⟩

set_option maxHeartbeats 400000 in
theorem next_nil (w : World) :
    Calls Tryd.prog 79 #[.string ⟨#[]⟩] w fun e w' => e = .returned (.tuple #[.int .i32 0, .int .i64 0]) ∧ w' = w := by
  go_enter Tryd.func79, Tryd.ntmps79
  go_wp2
  go_ret2
  exact ⟨rfl, rfl⟩

theorem list_of_pos (s : ByteArray) (h : 0 < s.size) : s.data.toList ≠ [] := by
  intro e
  have : s.data.toList.length = s.size := by simp
  rw [e] at this
  simp at this
  omega
theorem ne_of_pos (s : ByteArray) (h : 0 < s.size) : s.toList.isEmpty = false := by
  rw [ByteArray.toList_eq]
  simpa using list_of_pos s h
theorem at_eq (s : ByteArray) (k : Nat) (h : k < s.size) : G.at' s.data.toList k = (s[k].toNat : Int) := by
  unfold G.at'
  rw [List.getD_eq_getElem?_getD, List.getElem?_eq_getElem (by simpa using h)]
  rfl

set_option maxRecDepth 100000 in
set_option maxHeartbeats 400000 in
theorem next_some (s : ByteArray) (c : Int) (n : Nat) (w : World) (ht : Tab w) (hs : 0 < s.size) (hm : s.size ≤ maxLen) (H : Hid (G.nextL s.data.toList = (c, n))) :
    Calls Tryd.prog 79 #[.string s] w fun e w' => e = .returned (.tuple #[.int .i32 c, .int .i64 (n : Int)]) ∧ Below w.heap.size w w' := by
  have Ht : Hid (Tab w) := ht
  clear ht
  unfold maxLen at hm
  have hne : s.toList.isEmpty = false := ne_of_pos s hs
  have A0 : Hid (G.at' s.data.toList 0 = (s[0].toNat : Int)) := at_eq s 0 hs
  have HL : Hid (s.data.toList ≠ []) := list_of_pos s hs
  obtain ⟨⟨m, h, t⟩, HE⟩ : ∃ p, Hid (G.leadN (G.at' s.data.toList 0) = p) := ⟨_, rfl⟩
  have HE2 : Hid (G.leadN (s[0].toNat : Int) = (m, h, t)) := by rw [← A0.out]; exact HE
  have ub := s[0].toNat_lt
  have hle : m ≤ 4 := by have := G.lead_le (G.at' s.data.toList 0); rw [HE.out] at this; exact this
  by_cases m0 : m = 0
  · subst m0
    obtain ⟨rfl, rfl⟩ := G.next_eq H.out (G.nextW_none HL.out HE.out (.inl rfl))
    go_enter Tryd.func79, Tryd.ntmps79
    go_wp2_with fail
    refine (lead_any _ 0 h t _ (by omega) (by omega) HE2).mono ?_
    rintro e w1 ⟨rfl, rfl⟩
    go_wp2
    go_ret2
    exact ⟨rfl, Below.refl _ _⟩
  · have b0 : ((m : Int) == 0) = false := by simp; exact m0
    by_cases ml : s.size < m
    · obtain ⟨rfl, rfl⟩ := G.next_eq H.out (G.nextW_none HL.out HE.out (.inr (by simpa using ml)))
      go_enter Tryd.func79, Tryd.ntmps79
      go_wp2_with fail
      refine (lead_any _ m h t _ (by omega) (by omega) HE2).mono ?_
      rintro e w1 ⟨rfl, rfl⟩
      go_wp2
      go_ret2
      exact ⟨rfl, Below.refl _ _⟩
    · go_enter Tryd.func79, Tryd.ntmps79
      go_wp2_with fail
      refine (lead_any _ m h t _ (by omega) (by omega) HE2).mono ?_
      rintro e w1 ⟨rfl, rfl⟩
      go_wp2_with fail
      go_loop [5, 7] (fun v i => ∃ k : Nat, 1 ≤ k ∧ k ≤ m ∧ i = .int .i64 k ∧ v = .int .i32 (G.valTo h s.data.toList k) ∧ G.contTo s.data.toList k = true) (fun _ i => 5 - (intOf i).toNat)
      case atStart => exact ⟨1, by omega, by omega, rfl, rfl, rfl⟩
      case round =>
        obtain ⟨k, k1, km, rfl, rfl, hc⟩ := hrel
        have HC : Hid (G.contTo s.data.toList k = true) := hc
        clear hc
        by_cases klt : k < m
        · have kb : k < s.size := by omega
          have vb := G.val_bound s.data.toList (G.at' s.data.toList 0) k k1 (by rw [HE.out]; exact klt)
          rw [HE.out] at vb
          obtain ⟨v0, v1⟩ := vb
          simp only at v0 v1
          have u0 : (s[k].toNat : Int) < 256 := by have := s[k].toNat_lt; omega
          have AK : Hid (G.at' s.data.toList k = (s[k].toNat : Int)) := at_eq s k kb
          have BK : Hid ((bits .and .u8 (s[k].toNat : Int) 192 != 128) = !G.contB s.data.toList k) := by
            unfold G.contB; rw [AK.out]; exact G.and192 _ (by omega) u0
          go_wp2
          · go_ret2
            have q : G.contB s.data.toList k = false := by
              have := BK.out.symm.trans ‹_›
              simpa using this
            obtain ⟨rfl, rfl⟩ := G.next_eq H.out (G.nextW_cont HL.out HE.out (by simp; omega) k k1 klt q)
            exact ⟨rfl, Below.refl _ _⟩
          · go_round
            case rel =>
              have q : G.contB s.data.toList k = true := by
                have := BK.out.symm.trans ‹_›
                simpa using this
              refine ⟨k + 1, by omega, by omega, by go_num, ?_, G.contTo_succ _ k HC.out q⟩
              refine congrArg (Value.int .i32) ?_
              rw [G.valTo_succ _ _ k k1, AK.out]
            case measure => simp [intOf]; omega
        · have e : k = m := by omega
          subst e
          have ht : k ≤ s.data.toList.length := by simp; omega
          by_cases vt : G.valTo h s.data.toList k < t
          · obtain ⟨rfl, rfl⟩ := G.next_eq H.out (G.nextW_bad HL.out HE.out m0 ht HC.out (.inl vt))
            clear ht
            go_wp2
            go_ret2
            exact ⟨rfl, Below.refl _ _⟩
          · generalize hv : G.valTo h s.data.toList k = v at vt ⊢
            have HV : Hid (G.valTo h s.data.toList k = v) := hv
            clear hv
            cases cb : G.charB v
            · obtain ⟨rfl, rfl⟩ := G.next_eq H.out (G.nextW_bad HL.out HE.out m0 ht HC.out (.inr (by rw [HV.out]; exact cb)))
              clear ht
              go_wp2_with fail
              refine (char_any _ _ Ht.out).mono ?_
              rintro e w2 ⟨rfl, hb⟩
              go_wp2
              go_ret2
              exact ⟨rfl, hb⟩
            · obtain ⟨rfl, rfl⟩ := G.next_eq H.out (G.nextW_ok HL.out HE.out m0 ht HC.out (by rw [HV.out]; omega) (by rw [HV.out]; exact cb))
              clear ht
              go_wp2_with fail
              refine (char_any _ _ Ht.out).mono ?_
              rintro e w2 ⟨rfl, hb⟩
              go_wp2
              go_ret2
              exact ⟨ret_ii HV.out.symm rfl, hb⟩
end Go.Proofs.YtmgemdhpjibdiaaDoor
