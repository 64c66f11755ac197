/- PROVED: of any two texts of bulk at most 1048576 together, LexisBlanks returns true: a beginning, and an end, is told alike, however many blanks stand ahead of its end; the texts read afterwards as they read before. Its conditions: the table of glyph lies as the program's text lays it. -/
import Derived.Test.YtafjffnijonglaaDoorLSame
import Derived.Test.YtafjffnijonglaaDoorLBlanks
import Derived.Test.YtafjffnijonglaaDoorGLaid
import Derived.Test.YtafjffnijonglaaDoorTie
import Derived.Test.YtafjffnijonglaaDoorCards
import Derived.SevenTiedAt
import Derived.Deep.DeepHandedRow
namespace Go.Proofs.YtafjffnijonglaaDoor
open Go.ChangeShapes Go.WideShapes Go.ChangeAt Go.RowKit Go.Shelf
open Go.ChangeMaps (open_string shut_string)
namespace LexisBlanks
theorem byte_ne {a c : UInt8} (h : a ≠ c) : ((a.toNat : Int) == (c.toNat : Int)) = false ∧ ((a.toNat : Int) != (c.toNat : Int)) = true := by
  have : a.toNat ≠ c.toNat := fun q => h (UInt8.toNat_inj.1 q)
  constructor
  · rw [beq_eq_false_iff_ne]; omega
  · rw [bne_iff_ne]; omega
theorem byte_eq {a c : UInt8} (h : a = c) : (a.toNat : Int) = (c.toNat : Int) := by rw [h]
/-- What stands in each round. -/
def XS (nm : ByteArray) (k : Nat) : ByteArray × ByteArray := if k = 0 then (⟨#[60]⟩ ++ nm, ⟨#[62]⟩) else if k = 1 then (⟨#[60, 47]⟩ ++ nm, ⟨#[62]⟩) else (⟨#[60]⟩ ++ nm, ⟨#[47, 62]⟩)
structure Fit (nm x t : ByteArray) : Prop where
  two : 2 ≤ x.size
  beg : L.thereB x 0 [60] = true
  lst : L.thereB x (x.size - 1) [47] = false
  tl : t.data.toList = [62] ∨ t.data.toList = [47, 62]
  big : x.size ≤ 1048578
  sm : t.size ≤ 2
theorem fit_of (p nm t : ByteArray) (hp : ∃ r, p.data.toList = 60 :: r) (hps : p.size ≤ 2) (q : Nat) (hq : nm.size = q + 1) (hn : nm[q]'(by omega) ≠ 47) (hz : nm.size ≤ 1048576) (ht : t.data.toList = [62] ∨ t.data.toList = [47, 62]) : Fit nm (p ++ nm) t := by
  obtain ⟨r, hr⟩ := hp
  have hp0 : 1 ≤ p.size := by have := congrArg List.length hr; simp at this; omega
  have hs : (p ++ nm).size = p.size + nm.size := L.app_size _ _
  refine ⟨by omega, ?_, ?_, ht, by omega, ?_⟩
  · unfold L.thereB
    rw [List.drop_zero, L.app_list, hr]
    simp [List.isPrefixOf]
  · have e : (p ++ nm).size - 1 = p.size + q := by omega
    have hd : (p ++ nm).data.toList.drop (p.size + q) = [nm[q]'(by omega)] := by
      rw [L.app_list, List.drop_append, List.drop_eq_nil_of_le (by simp), List.nil_append]
      have e2 : p.size + q - p.data.toList.length = q := by simp
      rw [e2, L.drop_at nm q (by omega), L.drop_end nm (q + 1) (by omega)]
    unfold L.thereB
    rw [e, hd]
    simp only [List.isPrefixOf, Bool.and_eq_false_imp, beq_iff_eq]
    intro q2
    exact absurd q2.symm hn
  · have : t.size = t.data.toList.length := by simp
    rcases ht with h | h <;> rw [h] at this <;> simp at this <;> omega
theorem fits (nm : ByteArray) (q : Nat) (hq : nm.size = q + 1) (hn : nm[q]'(by omega) ≠ 47) (hz : nm.size ≤ 1048576) (k : Nat) : Fit nm (XS nm k).1 (XS nm k).2 := by
  unfold XS
  split
  · exact fit_of ⟨#[60]⟩ nm _ ⟨[], rfl⟩ (by decide) q hq hn hz (Or.inl rfl)
  · split
    · exact fit_of ⟨#[60, 47]⟩ nm _ ⟨[47], rfl⟩ (by decide) q hq hn hz (Or.inl rfl)
    · exact fit_of ⟨#[60]⟩ nm _ ⟨[], rfl⟩ (by decide) q hq hn hz (Or.inr rfl)
def cellsX (nm : ByteArray) : Array Value := #[Value.string (⟨#[60]⟩ ++ nm), .string ⟨#[62]⟩, .string (⟨#[60, 47]⟩ ++ nm), .string ⟨#[62]⟩, .string (⟨#[60]⟩ ++ nm), .string ⟨#[47, 62]⟩]
theorem cells_at (nm : ByteArray) : ∀ k, k < 3 → (cellsX nm)[k * 2]? = some (.string (XS nm k).1) ∧ (cellsX nm)[k * 2 + 1]? = some (.string (XS nm k).2)
  | 0, _ => ⟨rfl, rfl⟩
  | 1, _ => ⟨rfl, rfl⟩
  | 2, _ => ⟨rfl, rfl⟩
theorem app3 (x b t : ByteArray) : x ++ b ++ t = x ++ (b ++ t) := by
  apply L.bytes_one
  simp only [L.app_list, List.append_assoc]
set_option maxRecDepth 100000 in
set_option maxHeartbeats 8000000 in
theorem walk (nm bl : ByteArray) (hz : nm.size ≤ 1048576) (hz2 : bl.size ≤ 1048576) (w : World) (ht : Tab w) :
    Calls Tryd.prog 3 #[.string nm, .string bl] w fun e w' => e = .returned (.bool true) ∧ Below w.heap.size w w' := by
  have HT := hid ht
  clear ht
  have DONE : Hid (∀ W, Below w.heap.size w W → Calls Tryd.prog 9 #[] W fun e w' => e = .returned (.bool true) ∧ Below w.heap.size w w') := hid (fun W h => (alive_any W (HT.out.below h)).mono fun e w' ⟨x, y⟩ => ⟨x, h.trans (y.mono h.size)⟩)
  by_cases h0 : nm.size = 0
  · obtain rfl : nm = ⟨#[]⟩ := by
      apply L.bytes_one
      exact List.eq_nil_of_length_eq_zero (by simpa using h0)
    go_enter Tryd.func3, Tryd.ntmps3
    go_wp2_with fail
    refine (DONE.out w (Below.refl _ _)).mono ?_
    rintro e w2 ⟨rfl, hb2⟩
    have HB2 := hid hb2
    clear hb2
    go_wp2
    go_ret
    exact ⟨rfl, HB2.out⟩
  have hne : (nm.toList == []) = false := by
    have := str_eq nm L.noB
    rw [ByteArray.toList_eq L.noB] at this
    have hnn : nm ≠ L.noB := by rintro rfl; exact h0 rfl
    have h2 : (nm.toList == L.noB.data.toList) = false := by rw [this]; simpa using hnn
    exact h2
  obtain ⟨q, hq⟩ : ∃ q, nm.size = q + 1 := ⟨nm.size - 1, by omega⟩
  have hqi : q < nm.size := by omega
  by_cases h47 : nm[q] = 47
  · have e47 : (nm[q].toNat : Int) = 47 := byte_eq h47
    go_enter Tryd.func3, Tryd.ntmps3
    go_wp2_with fail
    refine (DONE.out w (Below.refl _ _)).mono ?_
    rintro e w2 ⟨rfl, hb2⟩
    have HB2 := hid hb2
    clear hb2
    go_wp2
    go_ret
    exact ⟨rfl, HB2.out⟩
  have n47 : ((nm[q].toNat : Int) == 47) = false := (byte_ne (c := 47) h47).1
  have H47 := hid h47
  clear h47
  go_enter Tryd.func3, Tryd.ntmps3
  go_wp2
  go_loop [29] (fun v29 => ∃ k : Nat, v29 = .int .i64 (k : Int) ∧ k ≤ bl.size ∧ Hid (∀ c ∈ bl.data.toList.take k, L.blankB c = true)) (fun v29 => bl.size - (intOf v29).toNat)
  case atStart => exact ⟨0, rfl, by omega, hid (by simp)⟩
  case round =>
    obtain ⟨k, rfl, hk, HK⟩ := hrel
    by_cases hlt : k < bl.size
    · have hlt' : (k : Int) < (bl.size : Int) := by omega
      have HT2 : Hid (bl.data.toList.take (k + 1) = bl.data.toList.take k ++ [bl[k]]) := hid (by
        rw [List.take_succ_eq_append_getElem (by simpa using hlt)]; rfl)
      have HNX : Hid (L.blankB bl[k] = true → ∀ c ∈ bl.data.toList.take (k + 1), L.blankB c = true) := hid (fun h c hc => by
        rw [HT2.out, List.mem_append] at hc
        rcases hc with hc | hc
        · exact HK.out c hc
        · simp only [List.mem_singleton] at hc; rw [hc]; exact h)
      clear HT2 HK
      by_cases c1 : bl[k] = 32
      · have e1 : (bl[k].toNat : Int) = 32 := byte_eq c1
        have HN := hid (HNX.out (by rw [c1]; rfl))
        clear HNX c1
        go_wp2
        go_round
        case rel => exact ⟨k + 1, by go_num, by omega, HN⟩
        case measure => simp [intOf]; omega
      · obtain ⟨e1, e1'⟩ := byte_ne (c := 32) c1
        have e1a : ((bl[k].toNat : Int) == 32) = false := e1
        have e1b : ((bl[k].toNat : Int) != 32) = true := e1'
        clear e1 e1'
        by_cases c2 : bl[k] = 9
        · have e2 : (bl[k].toNat : Int) = 9 := byte_eq c2
          have HN := hid (HNX.out (by rw [c2]; rfl))
          clear HNX c1 c2 e1a e1b
          go_wp2
          go_round
          case rel => exact ⟨k + 1, by go_num, by omega, HN⟩
          case measure => simp [intOf]; omega
        · obtain ⟨e2, e2'⟩ := byte_ne (c := 9) c2
          have e2a : ((bl[k].toNat : Int) == 9) = false := e2
          have e2b : ((bl[k].toNat : Int) != 9) = true := e2'
          clear e2 e2'
          by_cases c3 : bl[k] = 10
          · have e3 : (bl[k].toNat : Int) = 10 := byte_eq c3
            have HN := hid (HNX.out (by rw [c3]; rfl))
            clear HNX c1 c2 c3 e1a e1b e2a e2b
            go_wp2
            go_round
            case rel => exact ⟨k + 1, by go_num, by omega, HN⟩
            case measure => simp [intOf]; omega
          · obtain ⟨e3, e3'⟩ := byte_ne (c := 10) c3
            have e3a : ((bl[k].toNat : Int) == 10) = false := e3
            have e3b : ((bl[k].toNat : Int) != 10) = true := e3'
            clear e3 e3' HNX c1 c2 c3
            go_wp2_with fail
            refine (DONE.out w (Below.refl _ _)).mono ?_
            rintro e w2 ⟨rfl, hb2⟩
            have HB2 := hid hb2
            clear hb2
            go_wp2
            go_ret
            exact ⟨rfl, HB2.out⟩
    · have hlt' : ¬ (k : Int) < (bl.size : Int) := by omega
      have HBL : Hid (∀ c ∈ bl.data.toList, L.blankB c = true) := hid (by
        have := HK.out
        rwa [List.take_of_length_le (by simp; omega)] at this)
      have hs1 : (1 : Int) + (nm.size : Int) ≤ 9223372036854775807 := by omega
      have hs2 : (2 : Int) + (nm.size : Int) ≤ 9223372036854775807 := by omega
      clear HK
      have HN47 := H47
      have B0 : Hid ((w.alloc (.cells (cellsX nm) 23)).heap[w.heap.size]? = some (.cells (cellsX nm) 23 (0, 0))) := hid (heap_alloc_new w _)
      have W0 : Hid (Below w.heap.size w (w.alloc (.cells (cellsX nm) 23))) := hid ((Below.refl _ _).alloc (Nat.le_refl _) _)
      go_wp2
      go_loopw [61] (fun v61 W => ∃ k : Nat, v61 = .int .i64 (k : Int) ∧ k ≤ 3 ∧ Hid (W.heap[w.heap.size]? = some (.cells (cellsX nm) 23 (0, 0))) ∧ Hid (Below w.heap.size w W)) (fun v61 _ => 3 - (intOf v61).toNat)
      case atStart => exact ⟨0, rfl, by omega, B0, W0⟩
      case round =>
        clear B0 W0 hlt hlt' hk
        obtain ⟨k, rfl, hk, HI, HB⟩ := hrel
        by_cases hlt : k < 3
        · have hlt' : (k : Int) < 3 := by omega
          obtain ⟨a0, a1⟩ := cells_at nm k hlt
          have FT := fits nm q hq HN47.out hz k
          have c0 : wr.cell? ⟨w.heap.size, k * 2, none⟩ = some (.string (XS nm k).1) := by rw [cell_of_row _ w.heap.size (k * 2) _ _ _ HI.out]; exact a0
          have c1 : wr.cell? ⟨w.heap.size, k * 2 + 1, none⟩ = some (.string (XS nm k).2) := by rw [cell_of_row _ w.heap.size (k * 2 + 1) _ _ _ HI.out]; exact a1
          clear a0 a1
          generalize (XS nm k).1 = x at *
          generalize (XS nm k).2 = t at *
          obtain ⟨f1, f2, f3, f4, f5, f6⟩ := FT
          have HONE : Hid (∀ tk, L.oneP (x ++ t) 0 = .ok (tk, (x ++ t).size) → L.oneP (x ++ (bl ++ t)) 0 = .ok (tk, (x ++ (bl ++ t)).size)) := hid (fun tk h => by
            have z1 : 0 < (x ++ t).size := by rw [L.app_size]; omega
            have z2 : 0 < (x ++ (bl ++ t)).size := by rw [L.app_size]; omega
            have g1 := oneP_nat z1
            have g2 := oneP_nat z2
            rw [show ((0 : Nat) : Int) = 0 from rfl] at g1 g2
            rw [g1] at h
            rw [g2]
            exact L.tag_blanks HBL.out f4 f1 f2 f3 h)
          have hz3 : Hid ((x ++ t).size ≤ 140737488351232 ∧ (x ++ (bl ++ t)).size ≤ 140737488351232 ∧ 0 < (x ++ t).size) := hid (by rw [L.app_size, L.app_size, L.app_size]; omega)
          have g1 : (x.size : Int) + (t.size : Int) ≤ 9223372036854775807 := by omega
          have g2 : (x.size : Int) + (bl.size : Int) ≤ 9223372036854775807 := by omega
          have g3 : (x.size : Int) + (bl.size : Int) + (t.size : Int) ≤ 9223372036854775807 := by omega
          have hsz1 : (x ++ t).size = x.size + t.size := L.app_size _ _
          have hsz2 : (x ++ bl ++ t).size = x.size + bl.size + t.size := by rw [L.app_size, L.app_size]
          have HB1 : Hid (Below w.heap.size w (wr.alloc (.cells #[.string x, .string t] 23))) := hid (HB.out.alloc HB.out.size _)
          have HI1 : Hid (∀ W', Below (wr.alloc (.cells #[.string x, .string t] 23)).heap.size (wr.alloc (.cells #[.string x, .string t] 23)) W' → Below w.heap.size w W' ∧ W'.heap[w.heap.size]? = some (.cells (cellsX nm) 23 (0, 0)) ∧ W'.cell? ⟨wr.heap.size, 0, none⟩ = some (.string x) ∧ W'.cell? ⟨wr.heap.size, 1, none⟩ = some (.string t)) := hid (fun W' hb => by
            have hl : w.heap.size < wr.heap.size := lt_of_block HI.out
            refine ⟨HB1.out.trans (hb.mono HB1.out.size), ?_, ?_, ?_⟩
            · rw [hb.block _ (by simp; omega), Below.heap_alloc _ _ _ hl]; exact HI.out
            · rw [hb.cell (p := ⟨wr.heap.size, 0, none⟩) (by simp), cell_of_row _ wr.heap.size 0 _ _ _ (heap_alloc_new wr _)]; rfl
            · rw [hb.cell (p := ⟨wr.heap.size, 1, none⟩) (by simp), cell_of_row _ wr.heap.size 1 _ _ _ (heap_alloc_new wr _)]; rfl)
          clear f1 f2 f3 f4 HI HB1
          go_wp2_with fail
          refine Calls.mono (one_any (x ++ t) 0 _ (HT.out.below (HI1.out _ (Below.refl _ _)).1) hz3.out.1) ?_
          obtain ⟨W1, HW1⟩ : ∃ W1, Hid (wr.alloc (.cells #[.string x, .string t] 23) = W1) := ⟨_, hid rfl⟩
          rw [HW1.out] at HI1 ⊢
          generalize wr.heap.size = Bx at *
          rintro e w1 ⟨hb1, ⟨q1, e0, h1, h2, rfl⟩ | ⟨tk, n, v, h1, rfl, h3⟩⟩
          · have b1 : (e0 != 0) = true := bne_iff_ne.2 h2
            have B1 := hid (hb1.alloc hb1.size (.cells #[.int .i64 0, .int .i64 0, .string ⟨#[]⟩, .string ⟨#[]⟩, .slice none 0 0] 27))
            obtain ⟨-, -, x0, x1⟩ := HI1.out _ B1.out
            clear h1 h2 hb1
            unfold zeroT
            go_wp2_with fail
            rw [app3]
            refine Calls.mono (one_any (x ++ (bl ++ t)) 0 _ (HT.out.below (HI1.out _ B1.out).1) hz3.out.2.1) ?_
            generalize w1.alloc (.cells #[.int .i64 0, .int .i64 0, .string ⟨#[]⟩, .string ⟨#[]⟩, .slice none 0 0] 27) = W2 at *
            rintro e w2 ⟨hb2, ⟨q2, e2, _, _, rfl⟩ | ⟨tk2, n2, v2, _, rfl, h4⟩⟩
            · have B2 := hid (B1.out.trans (hb2.mono B1.out.size))
              clear hb2 x0 x1
              unfold zeroT
              have B3 := hid (B2.out.alloc B2.out.size (.cells #[.int .i64 0, .int .i64 0, .string ⟨#[]⟩, .string ⟨#[]⟩, .slice none 0 0] 27))
              obtain ⟨y0, y1, y2, y3⟩ := HI1.out _ B3.out
              have Y0 := hid y0
              have Y1 := hid y1
              clear y0 y1
              go_wp2
              go_roundw
              case rel => exact ⟨k + 1, by go_num, by omega, Y1, Y0⟩
              case measure => simp [intOf]; omega
            · have B2 := hid (B1.out.trans (hb2.mono B1.out.size))
              obtain ⟨ao, cp, rfl⟩ := att_len h4
              obtain ⟨kd, ps, nn, tx, ats⟩ := tk2
              dsimp only at *
              clear hb2 x0 x1 h4
              unfold tokV
              have B3 := hid (B2.out.alloc B2.out.size (.cells #[.int .i64 kd, .int .i64 (ps : Int), .string nn, .string tx, .slice ao ats.length cp] 27))
              obtain ⟨y0, y1, y2, y3⟩ := HI1.out _ B3.out
              have Y0 := hid y0
              have Y1 := hid y1
              clear y0 y1
              go_wp2
              go_roundw
              case rel => exact ⟨k + 1, by go_num, by omega, Y1, Y0⟩
              case measure => simp [intOf]; omega
          · obtain ⟨ao, cp, rfl⟩ := att_len h3
            have hl20 : tk.attrs.length ≤ 20 := by
              have z1 := hz3.out.2.2
              have g1 := oneP_nat z1
              rw [show ((0 : Nat) : Int) = 0 from rfl] at g1
              rw [g1] at h1
              exact (L.one_may z1 h1).1.2.2.2.2.2.1
            have H1 := hid h1
            obtain ⟨kd, ps, nn, tx, ats⟩ := tk
            dsimp only at *
            have B1 := hid (hb1.alloc hb1.size (.cells #[.int .i64 kd, .int .i64 (ps : Int), .string nn, .string tx, .slice ao ats.length cp] 27))
            obtain ⟨-, -, x0, x1⟩ := HI1.out _ B1.out
            by_cases hn : n = (x ++ t).size
            · have HO := HONE.out _ (by rw [← hn]; exact h1)
              have HO2 := hid HO
              have H3 := hid (World.ownsRow.alloc h3 (.cells #[.int .i64 kd, .int .i64 (ps : Int), .string nn, .string tx, .slice ao ats.length cp] 27))
              have TK : Hid ((w1.alloc (.cells #[.int .i64 kd, .int .i64 (ps : Int), .string nn, .string tx, .slice ao ats.length cp] 27)).heap[w1.heap.size]? = some (.cells #[.int .i64 kd, .int .i64 (ps : Int), .string nn, .string tx, .slice ao ats.length cp] 27 (0, 0))) := hid (heap_alloc_new w1 _)
              clear h1 hb1 h3 HO HONE
              unfold tokV
              go_wp2_with fail
              rw [app3]
              refine Calls.mono (one_any (x ++ (bl ++ t)) 0 _ (HT.out.below (HI1.out _ B1.out).1) hz3.out.2.1) ?_
              generalize w1.alloc (.cells #[.int .i64 kd, .int .i64 (ps : Int), .string nn, .string tx, .slice ao ats.length cp] 27) = W2 at *
              generalize w1.heap.size = Ba at *
              rw [HO2.out]
              rintro e w2 ⟨hb2, ⟨q2, e2, h5, _⟩ | ⟨tk2, n2, v2, h5, rfl, h4⟩⟩
              · cases h5
              simp only [Except.ok.injEq, Prod.mk.injEq] at h5
              obtain ⟨rfl, rfl⟩ := h5
              obtain ⟨ao', cp', rfl⟩ := att_len h4
              dsimp only at *
              have B2 := hid (B1.out.trans (hb2.mono B1.out.size))
              have TK2 : Hid ((w2.alloc (.cells #[.int .i64 kd, .int .i64 (ps : Int), .string nn, .string tx, .slice ao' ats.length cp'] 27)).heap[Ba]? = some (.cells #[.int .i64 kd, .int .i64 (ps : Int), .string nn, .string tx, .slice ao ats.length cp] 27 (0, 0))) := hid (by
                have hl := lt_of_block TK.out
                have := hb2.size
                rw [Below.heap_alloc _ _ _ (by omega), hb2.block _ hl]
                exact TK.out)
              have TL2 : Hid ((w2.alloc (.cells #[.int .i64 kd, .int .i64 (ps : Int), .string nn, .string tx, .slice ao' ats.length cp'] 27)).heap[w2.heap.size]? = some (.cells #[.int .i64 kd, .int .i64 (ps : Int), .string nn, .string tx, .slice ao' ats.length cp'] 27 (0, 0))) := hid (heap_alloc_new w2 _)
              have H3' := hid (World.ownsRow.alloc (row_below H3.out hb2) (.cells #[.int .i64 kd, .int .i64 (ps : Int), .string nn, .string tx, .slice ao' ats.length cp'] 27))
              have H4' := hid (World.ownsRow.alloc h4 (.cells #[.int .i64 kd, .int .i64 (ps : Int), .string nn, .string tx, .slice ao' ats.length cp'] 27))
              clear hb2 x0 x1 h4 H3 TK
              unfold tokV
              dsimp only
              have B3 := hid (B2.out.alloc B2.out.size (.cells #[.int .i64 kd, .int .i64 (ps : Int), .string nn, .string tx, .slice ao' ats.length cp'] 27))
              obtain ⟨y0, y1, y2, y3⟩ := HI1.out _ B3.out
              clear y0 y1
              have p0 : (w2.alloc (.cells #[.int .i64 kd, .int .i64 (ps : Int), .string nn, .string tx, .slice ao' ats.length cp'] 27)).cell? ⟨Ba, 0, none⟩ = some (.int .i64 kd) := by rw [cell_of_row _ Ba 0 _ _ _ TK2.out]; rfl
              have p1 : (w2.alloc (.cells #[.int .i64 kd, .int .i64 (ps : Int), .string nn, .string tx, .slice ao' ats.length cp'] 27)).cell? ⟨Ba, 1, none⟩ = some (.int .i64 (ps : Int)) := by rw [cell_of_row _ Ba 1 _ _ _ TK2.out]; rfl
              have p2 : (w2.alloc (.cells #[.int .i64 kd, .int .i64 (ps : Int), .string nn, .string tx, .slice ao' ats.length cp'] 27)).cell? ⟨Ba, 2, none⟩ = some (.string nn) := by rw [cell_of_row _ Ba 2 _ _ _ TK2.out]; rfl
              have p3 : (w2.alloc (.cells #[.int .i64 kd, .int .i64 (ps : Int), .string nn, .string tx, .slice ao' ats.length cp'] 27)).cell? ⟨Ba, 3, none⟩ = some (.string tx) := by rw [cell_of_row _ Ba 3 _ _ _ TK2.out]; rfl
              have p4 : (w2.alloc (.cells #[.int .i64 kd, .int .i64 (ps : Int), .string nn, .string tx, .slice ao' ats.length cp'] 27)).cell? ⟨Ba, 4, none⟩ = some (.slice ao ats.length cp) := by rw [cell_of_row _ Ba 4 _ _ _ TK2.out]; rfl
              clear TK2 TL2
              subst hn
              go_wp2_with fail
              refine (same_any ⟨kd, ps, nn, tx, ats⟩ (.slice ao ats.length cp) (.slice ao' ats.length cp') _ _ _ H3'.out H4'.out hl20).mono ?_
              rintro e w4 ⟨rfl, hb4⟩
              have B4 := hid (B3.out.trans (hb4.mono B3.out.size))
              obtain ⟨s0, s1, s2, s3⟩ := HI1.out _ B4.out
              have Y0 := hid s0
              have Y1 := hid s1
              clear s0 s1 hb4 p0 p1 p2 p3 p4 H3' H4' y2 y3
              go_wp2
              go_roundw
              case rel => exact ⟨k + 1, by go_num, by omega, Y1, Y0⟩
              case measure => simp [intOf]; omega
            · have hnz : ((n : Int) != ((x ++ t).size : Int)) = true := bne_iff_ne.2 (by omega)
              rw [hsz1] at hnz
              have hnz2 : ((n : Int) == (x.size : Int) + (t.size : Int)) = false := beq_eq_false_iff_ne.2 (by omega)
              have hnz3 : ((n : Int) != (x.size : Int) + (t.size : Int)) = true := bne_iff_ne.2 (by omega)
              clear h1 hb1 h3 HONE H1
              unfold tokV
              go_wp2_with fail
              rw [app3]
              refine Calls.mono (one_any (x ++ (bl ++ t)) 0 _ (HT.out.below (HI1.out _ B1.out).1) hz3.out.2.1) ?_
              generalize w1.alloc (.cells #[.int .i64 kd, .int .i64 (ps : Int), .string nn, .string tx, .slice ao ats.length cp] 27) = W2 at *
              rintro e w2 ⟨hb2, ⟨q2, e2, _, _, rfl⟩ | ⟨tk2, n2, v2, _, rfl, h4⟩⟩
              · have B2 := hid (B1.out.trans (hb2.mono B1.out.size))
                clear hb2 x0 x1
                unfold zeroT
                have B3 := hid (B2.out.alloc B2.out.size (.cells #[.int .i64 0, .int .i64 0, .string ⟨#[]⟩, .string ⟨#[]⟩, .slice none 0 0] 27))
                obtain ⟨y0, y1, y2, y3⟩ := HI1.out _ B3.out
                have Y0 := hid y0
                have Y1 := hid y1
                clear y0 y1
                go_wp2
                go_roundw
                case rel => exact ⟨k + 1, by go_num, by omega, Y1, Y0⟩
                case measure => simp [intOf]; omega
              · have B2 := hid (B1.out.trans (hb2.mono B1.out.size))
                obtain ⟨ao2, cp2, rfl⟩ := att_len h4
                obtain ⟨kd2, ps2, nn2, tx2, ats2⟩ := tk2
                dsimp only at *
                clear hb2 x0 x1 h4
                unfold tokV
                have B3 := hid (B2.out.alloc B2.out.size (.cells #[.int .i64 kd2, .int .i64 (ps2 : Int), .string nn2, .string tx2, .slice ao2 ats2.length cp2] 27))
                obtain ⟨y0, y1, y2, y3⟩ := HI1.out _ B3.out
                have Y0 := hid y0
                have Y1 := hid y1
                clear y0 y1
                go_wp2
                go_roundw
                case rel => exact ⟨k + 1, by go_num, by omega, Y1, Y0⟩
                case measure => simp [intOf]; omega
        · have hlt' : ¬ (k : Int) < 3 := by omega
          go_wp2_with fail
          refine (DONE.out _ HB.out).mono ?_
          rintro e w2 ⟨rfl, hb2⟩
          have HB2 := hid hb2
          clear hb2
          go_wp2
          go_ret
          exact ⟨rfl, HB2.out⟩

set_option maxRecDepth 100000 in
theorem contract (H : Type) (enc : TypeId × Value → H) (W : World) (base : Nat) (args : Array Value) (ds gs : List (DataW H)) (before : List MemPlace)
    (hval : ∀ (j : Nat) t v, Tryd.f3.params[j]? = some t → args[j]? = some v → Value.okWide Tryd.prog W .any base t v)
    (hW : DataW.Whole enc Tryd.prog Tryd.f3.params.toList Rows.lexisBlanksSpec.vars false W args.toList ds gs before) (hL : laidMetH Tryd.prog laidT W)
    (hk : Rows.uptoSmall H (ds ++ gs) = true) :
    Calls Tryd.prog 3 args W fun e W' => ∃ v, e = .returned v ∧ Rows.lexisBlanksSpec.post enc Tryd.prog Tryd.f3 false true false false W args v W' := by
  have hW' := hW
  obtain ⟨p, q, hA0, hV, rfl, hfz, hnd⟩ := hW
  have hA : DataW.TrodAll enc Tryd.prog W 0 (fun _ => true) true Tryd.f3.params.toList args.toList ds p := hA0
  rw [Tryd.params3] at hA hval
  obtain ⟨v0, vs0, d0, ds0, p0, q0, hargs, rfl, rfl, h0, r0⟩ := trodAll_cons hA
  obtain ⟨v1, vs1, d1, ds1, p1, q1, rfl, rfl, rfl, h1, r1⟩ := trodAll_cons r0
  obtain ⟨rfl, rfl, rfl⟩ := trodAll_nil r1
  obtain rfl : args = #[v0, v1] := by cases args; simp_all
  obtain ⟨rfl, rfl⟩ := trodVars_none hV
  obtain ⟨a0, rfl, rfl, rfl, w0⟩ := open_string Tryd.underlying9 (hval 0 9 v0 rfl rfl) h0
  obtain ⟨a1, rfl, rfl, rfl, w1⟩ := open_string Tryd.underlying9 (hval 1 9 v1 rfl rfl) h1
  have hk1 : Rows.uptoBulkAll _ ≤ 1048576 := of_decide_eq_true hk
  simp only [List.append_nil, Rows.uptoBulkAll, Rows.uptoBulk, Array.length_toList, ByteArray.size_data] at hk1
  have z0 : a0.size ≤ 1048576 := by omega
  have z1 : a1.size ≤ 1048576 := by omega
  have hT := tab_of hL
  clear hA0 hL hk hk1
  simp only [List.append_nil] at hW'
  refine (walk a0 a1 z0 z1 W hT).mono fun e W' ⟨he, hb⟩ => ?_
  subst he
  exact ⟨_, rfl, _, _, _, [], [], [], hW', trodAll_mk1 (shut_bool Tryd.underlying4 _), (trodAll_cons_mk (shut_string Tryd.underlying9 w0) (trodAll_cons_mk (shut_string Tryd.underlying9 w1) trodAll_mk0)), rfl, hb.frame _, fun h => by cases h⟩

theorem reads (os : Os) {H : Type} (enc : TypeId × Value → H) : ∃ places, DataW.whole enc Tryd.prog ((World.doorLaid Tryd.prog 400 os).forCall (fun _ _ => 0) ⟨#[], #[.string ⟨#[]⟩, .string ⟨#[]⟩], []⟩).memory Tryd.f3.params.toList Rows.lexisBlanksSpec.vars false #[Value.string ⟨#[]⟩, Value.string ⟨#[]⟩].toList 8 = some ([.lit (.string []), .lit (.string [])], [], places) :=
  ⟨[], by kernel_rfl⟩
theorem laid_met (os : Os) (args : Array Value) : laidMet Tryd.prog Rows.lexisBlanksUptoRow.laid ((World.doorLaid Tryd.prog 400 os).forCall (fun _ _ => 0) ⟨#[], args, []⟩).memory :=
  laidMet_of_run' 8 (by kernel_rfl) (by kernel_rfl)

set_option maxRecDepth 100000 in
theorem lifted (os : Os) (started : os.Started) (H : Type) (enc : TypeId × Value → H) (F : Stop.Interp) :
    ReturnsInHanded {} Tryd.checked os 3 .any ((Rows.OpenSpec.upto Rows.lexisBlanksSpec).preRow enc Tryd.prog Tryd.f3 Rows.lexisBlanksUptoRow.domain false Rows.lexisBlanksUptoRow.laid) (((Rows.OpenSpec.upto Rows.lexisBlanksSpec).at F).post enc Tryd.prog Tryd.f3 false true false false) := by
  obtain ⟨places, hx⟩ := reads os enc
  refine returnsInHanded_of_row (C := Tryd.checked) (s := (Rows.OpenSpec.upto Rows.lexisBlanksSpec)) own started (by kernel_rfl) Tryd.func3
    (witness_row_at (enc := enc) (C := Tryd.checked) false (World.doorLaid Tryd.prog 400 os) #[.string ⟨#[]⟩, .string ⟨#[]⟩] rfl (by kernel_rfl) (by kernel_rfl) (by kernel_rfl)
      (OpenSpec.preRow_of_cond 8 hx (by kernel_rfl) (fun k hk => by cases hk; kernel_rfl) (by kernel_rfl) (laid_met os _))) ?_
  intro W base args ds gs before hval hW _ hcond hsz hL _ _
  exact contract H enc W base args ds gs before hval hW hL (hcond _ rfl)

theorem over : Rows.LexisBlanksUptoSaid :=
  OpenClaim.holds_of_cond 3 Tryd.f3 rfl rfl rfl rfl rfl rfl rfl ⟨rfl, rfl, rfl, rfl, rfl⟩ rfl rfl rfl rfl rfl (by kernel_rfl) Tryd.func3 (by kernel_rfl)
    (of_decide_eq_true (by kernel_rfl)) (by unfold Func.isWrapper; first | (rw [if_pos (by decide +kernel)]; kernel_rfl) | (rw [if_neg (by decide +kernel)]; exact ⟨rfl, rfl⟩))
    (fun os started H enc _ F => by rw [OpenClaim.pre_eq_preRow]; exact lifted os started H enc F)
theorem plain (f : FuncId) (fn : Func) (hf : Tryd.pinned.checked.prog.funcNamed Rows.lexisBlanksUptoRow.func = some f) (hfn : Tryd.pinned.checked.prog.funcs[f]? = some fn) :
    false = Tryd.pinned.checked.prog.looks [] ∧ ∀ (j : Nat) t, fn.params[j]? = some t → Tryd.pinned.checked.prog.wantsStandIn t = false := by
  obtain rfl : f = 3 := Option.some.inj ((show Tryd.prog.funcNamed Rows.lexisBlanksUptoRow.func = some 3 by kernel_rfl).symm.trans hf) |>.symm
  obtain rfl : fn = Tryd.f3 := (Option.some.inj (Tryd.func3.symm.trans hfn)).symm
  refine ⟨by kernel_rfl, fun j t ht => ?_⟩
  rw [Tryd.params3] at ht
  have hm : t ∈ [9, 9] := by simpa using Array.mem_of_getElem? ht
  have hall : ([9, 9].all fun u => !Tryd.prog.wantsStandIn u) = true := by kernel_rfl
  exact (show Tryd.prog.wantsStandIn t = false by simpa using List.all_eq_true.1 hall t hm)
end LexisBlanks

theorem lexisBlanksUpto_holds : Rows.LexisBlanksUptoCardSaid :=
  Claim7.holds_tied_plain_at .later [] _ _ _ _ LexisBlanks.over (fun _ h => by cases h) (by kernel_rfl) (fun _ h => by cases h) lexisBlanksUpto_row_tie rfl ⟨rfl, rfl⟩ (by kernel_rfl) rfl LexisBlanks.plain (by kernel_rfl)
#print axioms lexisBlanksUpto_holds
end Go.Proofs.YtafjffnijonglaaDoor
