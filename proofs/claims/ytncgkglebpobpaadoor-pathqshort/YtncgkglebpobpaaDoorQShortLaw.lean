/- PROVED: of any name, PathqShort returns true: what is written shortly is read as what it is short for; the text reads afterwards as it read before. Its conditions: the tables of glyph, pathq and strconv lie as the program's text lays them. -/
import Derived.Test.YtncgkglebpobpaaDoorQAlive
import Derived.Test.YtncgkglebpobpaaDoorQSame
import Derived.Test.YtncgkglebpobpaaDoorQAx
import Derived.Test.YtncgkglebpobpaaDoorQLaid
import Derived.Test.YtncgkglebpobpaaDoorTie
import Derived.Test.YtncgkglebpobpaaDoorCards
import Derived.SevenTiedAt
import Derived.Deep.DeepHandedRow
namespace Go.Proofs.YtncgkglebpobpaaDoor
open Go.ChangeShapes Go.WideShapes Go.ChangeAt Go.RowKit Go.Shelf
open Go.ChangeMaps (open_string shut_string)
namespace PathqShort
/-- What stands in each round. -/
def XS (nm : ByteArray) (k : Nat) : ByteArray × ByteArray :=
  if k = 0 then (⟨#[47]⟩ ++ nm, ⟨#[47, 99, 104, 105, 108, 100, 58, 58]⟩ ++ nm)
  else if k = 1 then (⟨#[47, 46]⟩, ⟨#[47, 115, 101, 108, 102, 58, 58, 110, 111, 100, 101, 40, 41]⟩)
  else if k = 2 then (⟨#[47, 46, 46]⟩, ⟨#[47, 112, 97, 114, 101, 110, 116, 58, 58, 110, 111, 100, 101, 40, 41]⟩)
  else (⟨#[47, 47]⟩ ++ nm, ⟨#[47, 100, 101, 115, 99, 101, 110, 100, 97, 110, 116, 45, 111, 114, 45, 115, 101, 108, 102, 58, 58, 110, 111, 100, 101, 40, 41, 47, 99, 104, 105, 108, 100, 58, 58]⟩ ++ nm)
def cellsX (nm : ByteArray) : Array Value := #[.string (⟨#[47]⟩ ++ nm), .string (⟨#[47, 99, 104, 105, 108, 100, 58, 58]⟩ ++ nm), .string ⟨#[47, 46]⟩, .string ⟨#[47, 115, 101, 108, 102, 58, 58, 110, 111, 100, 101, 40, 41]⟩, .string ⟨#[47, 46, 46]⟩, .string ⟨#[47, 112, 97, 114, 101, 110, 116, 58, 58, 110, 111, 100, 101, 40, 41]⟩, .string (⟨#[47, 47]⟩ ++ nm), .string (⟨#[47, 100, 101, 115, 99, 101, 110, 100, 97, 110, 116, 45, 111, 114, 45, 115, 101, 108, 102, 58, 58, 110, 111, 100, 101, 40, 41, 47, 99, 104, 105, 108, 100, 58, 58]⟩ ++ nm)]
theorem cells_at (nm : ByteArray) : ∀ k, k < 4 → (cellsX nm)[k * 2]? = some (.string (XS nm k).1) ∧ (cellsX nm)[k * 2 + 1]? = some (.string (XS nm k).2)
  | 0, _ => ⟨rfl, rfl⟩
  | 1, _ => ⟨rfl, rfl⟩
  | 2, _ => ⟨rfl, rfl⟩
  | 3, _ => ⟨rfl, rfl⟩
/-- The two are read alike, or the name is none. -/
def Alike (nm x t : ByteArray) : Prop := (∀ l m, Q.parseP x = .ok l → Q.parseP t = .ok m → l = m) ∧ (t.size ≤ 200 → L.thereB nm 0 [46] = false → L.thereB nm 0 [47] = false → Q.axL nm.data.toList = false → Q.okB (Q.parseP x) = Q.okB (Q.parseP t))
theorem alike_one {nm x t : ByteArray} {l : List Q.Step} (h1 : Q.parseP x = .ok l) (h2 : Q.parseP t = .ok l) : Alike nm x t :=
  ⟨fun a b ha hb => by rw [h1] at ha; rw [h2] at hb; exact (Except.ok.inj ha).symm.trans (Except.ok.inj hb), fun _ _ _ _ => by rw [h1, h2]⟩
theorem alikes (nm : ByteArray) (k : Nat) : Alike nm (XS nm k).1 (XS nm k).2 := by
  unfold XS
  split
  · exact Q.pair12 nm
  · split
    · exact alike_one Q.self_one Q.self_two
    · split
      · exact alike_one Q.up_one Q.up_two
      · exact Q.pair34 nm
theorem size_of (nm : ByteArray) (k : Nat) : (XS nm k).1.size ≤ nm.size + 50 ∧ (XS nm k).2.size ≤ nm.size + 50 := by
  unfold XS
  split
  · simp only [L.app_size]; exact ⟨by show 1 + _ ≤ _; omega, by show 8 + _ ≤ _; omega⟩
  · split
    · exact ⟨by show 2 ≤ _; omega, by show 13 ≤ _; omega⟩
    · split
      · exact ⟨by show 3 ≤ _; omega, by show 15 ≤ _; omega⟩
      · simp only [L.app_size]; exact ⟨by show 2 + _ ≤ _; omega, by show 35 + _ ≤ _; omega⟩
theorem nil_eq {q : ByteArray} (h : q.size = 0) : (q.toList == []) = true := by
  have e : q = L.noB := L.bytes_one (List.eq_nil_of_length_eq_zero (by simpa using h))
  rw [ByteArray.toList_eq, e]
  rfl
theorem nil_ne {q : ByteArray} (h : ¬ q.size = 0) : (q.toList == []) = false := by
  rw [ByteArray.toList_eq]
  refine beq_eq_false_iff_ne.2 (fun e => h ?_)
  have := congrArg List.length e
  simpa using this
set_option maxRecDepth 100000 in
set_option maxHeartbeats 8000000 in
theorem walk (nm : ByteArray) (hz : nm.size ≤ 140737488351232) (w : World) (ht : TabQ w) :
    Calls Tryd.prog 9 #[.string nm] w fun e w' => e = .returned (.bool true) ∧ Below w.heap.size w w' := by
  have HT := hid ht
  clear ht
  have hs1 : (1 : Int) + (nm.size : Int) ≤ 9223372036854775807 := by omega
  have hs2 : (2 : Int) + (nm.size : Int) ≤ 9223372036854775807 := by omega
  have hs3 : (8 : Int) + (nm.size : Int) ≤ 9223372036854775807 := by omega
  have hs4 : (35 : Int) + (nm.size : Int) ≤ 9223372036854775807 := by omega
  have B0 : Hid ((w.alloc (.cells (cellsX nm) 33)).heap[w.heap.size]? = some (.cells (cellsX nm) 33 (0, 0))) := hid (heap_alloc_new w _)
  have W0 : Hid (Below w.heap.size w (w.alloc (.cells (cellsX nm) 33))) := hid ((Below.refl _ _).alloc (Nat.le_refl _) _)
  go_enter Tryd.func9, Tryd.ntmps9
  go_wp2
  go_loopw [25] (fun v25 W => ∃ k : Nat, v25 = .int .i64 (k : Int) ∧ k ≤ 4 ∧ Hid (W.heap[w.heap.size]? = some (.cells (cellsX nm) 33 (0, 0))) ∧ Hid (Below w.heap.size w W)) (fun v25 _ => 4 - (intOf v25).toNat)
  case atStart => exact ⟨0, rfl, by omega, B0, W0⟩
  case round =>
    clear B0 W0
    obtain ⟨k, rfl, hk, HI, HB⟩ := hrel
    by_cases hlt : k < 4
    · have hlt' : (k : Int) < 4 := by omega
      obtain ⟨a0, a1⟩ := cells_at nm k hlt
      have HAL := hid (alikes nm k)
      obtain ⟨sz1, sz2⟩ := size_of nm k
      have c0 : wr.cell? ⟨w.heap.size, k * 2, none⟩ = some (.string (XS nm k).1) := by rw [cell_of_row _ w.heap.size (k * 2) _ _ _ HI.out]; exact a0
      have c1 : wr.cell? ⟨w.heap.size, k * 2 + 1, none⟩ = some (.string (XS nm k).2) := by rw [cell_of_row _ w.heap.size (k * 2 + 1) _ _ _ HI.out]; exact a1
      clear a0 a1
      generalize (XS nm k).1 = x at *
      generalize (XS nm k).2 = t at *
      obtain ⟨r1, HR1⟩ : ∃ r, Hid (Q.parseP x = r) := ⟨_, hid rfl⟩
      obtain ⟨r2, HR2⟩ : ∃ r, Hid (Q.parseP t = r) := ⟨_, hid rfl⟩
      have HB1 : Hid (Below w.heap.size w (wr.alloc (.cells #[.string x, .string t] 33))) := hid (HB.out.alloc HB.out.size _)
      have HI1 : Hid (∀ W', Below (wr.alloc (.cells #[.string x, .string t] 33)).heap.size (wr.alloc (.cells #[.string x, .string t] 33)) W' → Below w.heap.size w W' ∧ W'.heap[w.heap.size]? = some (.cells (cellsX nm) 33 (0, 0)) ∧ W'.cell? ⟨wr.heap.size, 0, none⟩ = some (.string x) ∧ W'.cell? ⟨wr.heap.size, 1, none⟩ = some (.string t)) := hid (fun W' hb => by
        have hl : w.heap.size < wr.heap.size := lt_of_block HI.out
        refine ⟨HB1.out.trans (hb.mono HB1.out.size), ?_, ?_, ?_⟩
        · rw [hb.block _ (by simp; omega), Below.heap_alloc _ _ _ hl]; exact HI.out
        · rw [hb.cell (p := ⟨wr.heap.size, 0, none⟩) (by simp), cell_of_row _ wr.heap.size 0 _ _ _ (heap_alloc_new wr _)]; rfl
        · rw [hb.cell (p := ⟨wr.heap.size, 1, none⟩) (by simp), cell_of_row _ wr.heap.size 1 _ _ _ (heap_alloc_new wr _)]; rfl)
      have NX : Hid (∀ W', Below (wr.alloc (.cells #[.string x, .string t] 33)).heap.size (wr.alloc (.cells #[.string x, .string t] 33)) W' → W'.heap[w.heap.size]? = some (.cells (cellsX nm) 33 (0, 0)) ∧ Below w.heap.size w W') := hid (fun W' h => ⟨(HI1.out W' h).2.1, (HI1.out W' h).1⟩)
      clear HI HB1
      go_wp2_with fail
      refine Calls.mono (qparse_any x _ (HT.out.below (HI1.out _ (Below.refl _ _)).1) r1 HR1) ?_
      obtain ⟨W1, HW1⟩ : ∃ W1, Hid (wr.alloc (.cells #[.string x, .string t] 33) = W1) := ⟨_, hid rfl⟩
      rw [HW1.out] at HI1 NX ⊢
      generalize wr.heap.size = Bx at *
      rintro e w1 ⟨hb1, ⟨z1, e1, h1, n1, rfl⟩ | ⟨l, V, h1, rfl, h3⟩⟩
      · have b1 : (e1 == 0) = false := beq_eq_false_iff_ne.2 n1
        have B1 := hid hb1
        obtain ⟨-, -, x0, x1⟩ := HI1.out _ hb1
        have E1 : Hid (Q.okB (Q.parseP x) = false) := hid (by rw [HR1.out, h1]; rfl)
        clear hb1 h1
        go_wp2_with fail
        refine Calls.mono (qparse_any t w1 (HT.out.below (HI1.out _ B1.out).1) r2 HR2) ?_
        rintro e w2 ⟨hb2, ⟨z2, e2, h2, n2, rfl⟩ | ⟨l2, V2, h2, rfl, h4⟩⟩
        · have b2 : (e2 == 0) = false := beq_eq_false_iff_ne.2 n2
          have B2 := hid (B1.out.trans (hb2.mono B1.out.size))
          obtain ⟨y0, y1⟩ := NX.out _ B2.out
          have Y0 := hid y0
          have Y1 := hid y1
          clear hb2 h2 x0 x1 y0 y1
          go_wp2
          go_roundw
          case rel => exact ⟨k + 1, by go_num, by omega, Y0, Y1⟩
          case measure => simp [intOf]; omega
        · have E2 : Hid (Q.okB (Q.parseP t) = true) := hid (by rw [HR2.out, h2]; rfl)
          have B2 := hid (B1.out.trans (hb2.mono B1.out.size))
          obtain ⟨y0, y1⟩ := NX.out _ B2.out
          obtain ⟨-, -, -, z1⟩ := HI1.out _ B2.out
          have Y0 := hid y0
          have Y1 := hid y1
          clear hb2 h2 x0 x1 y0 y1 h4
          have NE : Hid (Q.axL nm.data.toList = false → t.size ≤ 200 → L.thereB nm 0 [46] = false → L.thereB nm 0 [47] = false → False) := hid (fun h1 h2 h3 h4 => by
            have h := HAL.out.2 h2 h3 h4 h1
            rw [E1.out, E2.out] at h
            cases h)
          clear E1 E2
          by_cases q1 : t.size ≤ 200
          · have q1' : (t.size : Int) ≤ 200 := by omega
            by_cases q2 : nm.size = 0
            · have ne0 : (nm.toList == []) = true := nil_eq q2
              go_wp2
              go_roundw
              case rel => exact ⟨k + 1, by go_num, by omega, Y0, Y1⟩
              case measure => simp [intOf]; omega
            · have h0 : 0 < nm.size := Nat.pos_of_ne_zero q2
              have h0' : (0 : Int) < (nm.size : Int) := by omega
              have ne0 : (nm.toList == []) = false := nil_ne q2
              by_cases q3 : nm[0] = 46
              · have e3 : (nm[0].toNat : Int) = 46 := byteQ_eq q3
                go_wp2
                go_roundw
                case rel => exact ⟨k + 1, by go_num, by omega, Y0, Y1⟩
                case measure => simp [intOf]; omega
              · obtain ⟨e3, e3'⟩ : ((nm[0].toNat : Int) == 46) = false ∧ ((nm[0].toNat : Int) != 46) = true := byteQ_ne (c := 46) q3
                by_cases q4 : nm[0] = 47
                · have e4 : (nm[0].toNat : Int) = 47 := byteQ_eq q4
                  clear e3 e3'
                  go_wp2
                  go_roundw
                  case rel => exact ⟨k + 1, by go_num, by omega, Y0, Y1⟩
                  case measure => simp [intOf]; omega
                · obtain ⟨e4, e4'⟩ : ((nm[0].toNat : Int) == 47) = false ∧ ((nm[0].toNat : Int) != 47) = true := byteQ_ne (c := 47) q4
                  have HA : Hid (Q.axL nm.data.toList = true) := hid (by
                    cases h : Q.axL nm.data.toList with
                    | true => rfl
                    | false => exact absurd (NE.out h q1 (Q.head_not h0 46 q3) (Q.head_not h0 47 q4)) id)
                  clear NE Y0 Y1
                  go_wp2_with fail
                  refine (lawAxis_any nm hz w2).mono ?_
                  rw [HA.out]
                  rintro e w3 ⟨rfl, hb3⟩
                  obtain ⟨y0, y1⟩ := NX.out _ (B2.out.trans (hb3.mono B2.out.size))
                  have Y0 := hid y0
                  have Y1 := hid y1
                  clear hb3 y0 y1
                  go_wp2
                  go_roundw
                  case rel => exact ⟨k + 1, by go_num, by omega, Y0, Y1⟩
                  case measure => simp [intOf]; omega
          · have q1' : ¬ (t.size : Int) ≤ 200 := by omega
            go_wp2
            go_roundw
            case rel => exact ⟨k + 1, by go_num, by omega, Y0, Y1⟩
            case measure => simp [intOf]; omega
      · have B1 := hid hb1
        obtain ⟨-, -, x0, x1⟩ := HI1.out _ hb1
        have E1 : Hid (Q.okB (Q.parseP x) = true) := hid (by rw [HR1.out, h1]; rfl)
        have HP1 := hid (HR1.out.trans h1)
        have HS1 := hid (steps_in h3)
        clear hb1 h1 h3
        go_wp2_with fail
        refine Calls.mono (qparse_any t w1 (HT.out.below (HI1.out _ B1.out).1) r2 HR2) ?_
        rintro e w2 ⟨hb2, ⟨z2, e2, h2, n2, rfl⟩ | ⟨l2, V2, h2, rfl, h4⟩⟩
        · have b2 : (e2 == 0) = false := beq_eq_false_iff_ne.2 n2
          have E2 : Hid (Q.okB (Q.parseP t) = false) := hid (by rw [HR2.out, h2]; rfl)
          have B2 := hid (B1.out.trans (hb2.mono B1.out.size))
          obtain ⟨y0, y1⟩ := NX.out _ B2.out
          obtain ⟨-, -, -, z1⟩ := HI1.out _ B2.out
          have Y0 := hid y0
          have Y1 := hid y1
          clear hb2 h2 x0 x1 y0 y1 HP1 HS1
          have NE : Hid (Q.axL nm.data.toList = false → t.size ≤ 200 → L.thereB nm 0 [46] = false → L.thereB nm 0 [47] = false → False) := hid (fun h1 h2 h3 h4 => by
            have h := HAL.out.2 h2 h3 h4 h1
            rw [E1.out, E2.out] at h
            cases h)
          clear E1 E2
          by_cases q1 : t.size ≤ 200
          · have q1' : (t.size : Int) ≤ 200 := by omega
            by_cases q2 : nm.size = 0
            · have ne0 : (nm.toList == []) = true := nil_eq q2
              go_wp2
              go_roundw
              case rel => exact ⟨k + 1, by go_num, by omega, Y0, Y1⟩
              case measure => simp [intOf]; omega
            · have h0 : 0 < nm.size := Nat.pos_of_ne_zero q2
              have h0' : (0 : Int) < (nm.size : Int) := by omega
              have ne0 : (nm.toList == []) = false := nil_ne q2
              by_cases q3 : nm[0] = 46
              · have e3 : (nm[0].toNat : Int) = 46 := byteQ_eq q3
                go_wp2
                go_roundw
                case rel => exact ⟨k + 1, by go_num, by omega, Y0, Y1⟩
                case measure => simp [intOf]; omega
              · obtain ⟨e3, e3'⟩ : ((nm[0].toNat : Int) == 46) = false ∧ ((nm[0].toNat : Int) != 46) = true := byteQ_ne (c := 46) q3
                by_cases q4 : nm[0] = 47
                · have e4 : (nm[0].toNat : Int) = 47 := byteQ_eq q4
                  clear e3 e3'
                  go_wp2
                  go_roundw
                  case rel => exact ⟨k + 1, by go_num, by omega, Y0, Y1⟩
                  case measure => simp [intOf]; omega
                · obtain ⟨e4, e4'⟩ : ((nm[0].toNat : Int) == 47) = false ∧ ((nm[0].toNat : Int) != 47) = true := byteQ_ne (c := 47) q4
                  have HA : Hid (Q.axL nm.data.toList = true) := hid (by
                    cases h : Q.axL nm.data.toList with
                    | true => rfl
                    | false => exact absurd (NE.out h q1 (Q.head_not h0 46 q3) (Q.head_not h0 47 q4)) id)
                  clear NE Y0 Y1
                  go_wp2_with fail
                  refine (lawAxis_any nm hz w2).mono ?_
                  rw [HA.out]
                  rintro e w3 ⟨rfl, hb3⟩
                  obtain ⟨y0, y1⟩ := NX.out _ (B2.out.trans (hb3.mono B2.out.size))
                  have Y0 := hid y0
                  have Y1 := hid y1
                  clear hb3 y0 y1
                  go_wp2
                  go_roundw
                  case rel => exact ⟨k + 1, by go_num, by omega, Y0, Y1⟩
                  case measure => simp [intOf]; omega
          · have q1' : ¬ (t.size : Int) ≤ 200 := by omega
            go_wp2
            go_roundw
            case rel => exact ⟨k + 1, by go_num, by omega, Y0, Y1⟩
            case measure => simp [intOf]; omega
        · have HEQ : Hid (l.map (·.1) = l2.map (·.1)) := hid (HAL.out.1 _ _ HP1.out (HR2.out.trans h2))
          have HS2 := hid (steps_in h4)
          have HS1b := hid (HS1.out.below hb2)
          have B2 := hid (B1.out.trans (hb2.mono B1.out.size))
          clear hb2 h2 x0 x1 h4 HP1 HS1 E1
          go_wp2_with fail
          refine Calls.mono (sameQ_any _ _ l l2 w2 HS1b HS2 HEQ.out) ?_
          rintro e w3 ⟨rfl, hb3⟩
          obtain ⟨y0, y1⟩ := NX.out _ (B2.out.trans (hb3.mono B2.out.size))
          have Y0 := hid y0
          have Y1 := hid y1
          clear hb3 y0 y1
          go_wp2
          go_roundw
          case rel => exact ⟨k + 1, by go_num, by omega, Y0, Y1⟩
          case measure => simp [intOf]; omega
    · have hlt' : ¬ (k : Int) < 4 := by omega
      have HB1 := hid HB
      go_wp2_with fail
      refine (aliveQ_any wr (HT.out.below HB.out)).mono ?_
      rintro e w2 ⟨rfl, hb2⟩
      have HB2 := hid (HB.out.trans (hb2.mono HB.out.size))
      clear hb2
      go_wp2
      go_ret
      exact ⟨rfl, HB2.out⟩

set_option maxRecDepth 100000 in
theorem contract (H : Type) (enc : TypeId × Value → H) (W : World) (base : Nat) (args : Array Value) (ds gs : List (DataW H)) (before : List MemPlace)
    (hval : ∀ (j : Nat) t v, Tryd.f9.params[j]? = some t → args[j]? = some v → Value.okWide Tryd.prog W .any base t v)
    (hW : DataW.Whole enc Tryd.prog Tryd.f9.params.toList Rows.pathqShortSpec.vars false W args.toList ds gs before) (hL : laidMetH Tryd.prog laidT W)
    (hsz : (DataW.weightsEach Tryd.prog (Tryd.f9.params.toList ++ (OpenSpec.ofChange Rows.pathqShortSpec).bare.plain.varTypes Tryd.prog) (ds ++ gs)).all (· ≤ reachBytes) = true) :
    Calls Tryd.prog 9 args W fun e W' => ∃ v, e = .returned v ∧ Rows.pathqShortSpec.post enc Tryd.prog Tryd.f9 false true false false W args v W' := by
  have hW' := hW
  obtain ⟨p, q, hA0, hV, rfl, hfz, hnd⟩ := hW
  have hA : DataW.TrodAll enc Tryd.prog W 0 (fun _ => true) true Tryd.f9.params.toList args.toList ds p := hA0
  rw [Tryd.params9] at hA hval
  rw [Tryd.params9] at hsz
  obtain ⟨v0, vs0, d0, ds0, p0, q0, hargs, rfl, rfl, h0, r0⟩ := trodAll_cons hA
  obtain ⟨rfl, rfl, rfl⟩ := trodAll_nil r0
  obtain rfl : args = #[v0] := by cases args; simp_all
  obtain ⟨rfl, rfl⟩ := trodVars_none hV
  obtain ⟨a0, rfl, rfl, rfl, w0⟩ := open_string Tryd.underlying9 (hval 0 9 v0 rfl rfl) h0
  have z0 : a0.size ≤ 140737488351232 := by simpa [reachBytes] using sized_string hsz (j := 0) (t := 9) rfl rfl
  have hT := tab_of hL
  clear hA0 hL hsz
  simp only [List.append_nil] at hW'
  refine (walk a0 z0 W hT).mono fun e W' ⟨he, hb⟩ => ?_
  subst he
  exact ⟨_, rfl, _, _, _, [], [], [], hW', trodAll_mk1 (shut_bool Tryd.underlying4 _), (trodAll_cons_mk (shut_string Tryd.underlying9 w0) trodAll_mk0), rfl, hb.frame _, fun h => by cases h⟩

theorem reads (os : Os) {H : Type} (enc : TypeId × Value → H) : ∃ places, DataW.whole enc Tryd.prog ((World.doorLaid Tryd.prog 400 os).forCall (fun _ _ => 0) ⟨#[], #[.string ⟨#[]⟩], []⟩).memory Tryd.f9.params.toList Rows.pathqShortSpec.vars false #[Value.string ⟨#[]⟩].toList 8 = some ([.lit (.string [])], [], places) :=
  ⟨[], by kernel_rfl⟩
theorem laid_met (os : Os) (args : Array Value) : laidMet Tryd.prog Rows.pathqShortRow.laid ((World.doorLaid Tryd.prog 400 os).forCall (fun _ _ => 0) ⟨#[], args, []⟩).memory :=
  laidMet_of_run' 8 (by kernel_rfl) (by kernel_rfl)

set_option maxRecDepth 100000 in
theorem lifted (os : Os) (started : os.Started) (H : Type) (enc : TypeId × Value → H) (F : Stop.Interp) :
    ReturnsInHanded {} Tryd.checked os 9 .any ((OpenSpec.ofChange Rows.pathqShortSpec).preRow enc Tryd.prog Tryd.f9 Rows.pathqShortRow.domain false Rows.pathqShortRow.laid) (((OpenSpec.ofChange Rows.pathqShortSpec).at F).post enc Tryd.prog Tryd.f9 false true false false) := by
  obtain ⟨places, hx⟩ := reads os enc
  refine returnsInHanded_of_row (C := Tryd.checked) (s := (OpenSpec.ofChange Rows.pathqShortSpec)) own started (by kernel_rfl) Tryd.func9
    (witness_row_at (enc := enc) (C := Tryd.checked) false (World.doorLaid Tryd.prog 400 os) #[.string ⟨#[]⟩] rfl (by kernel_rfl) (by kernel_rfl) (by kernel_rfl)
      (OpenSpec.preRow_of_cond 8 hx (by kernel_rfl) (fun k hk => by cases hk) (by kernel_rfl) (laid_met os _))) ?_
  intro W base args ds gs before hval hW _ hcond hsz hL _ _
  exact contract H enc W base args ds gs before hval hW hL hsz

theorem over : Rows.PathqShortSaid :=
  OpenClaim.holds_of_cond 9 Tryd.f9 rfl rfl rfl rfl rfl rfl rfl ⟨rfl, rfl, rfl, rfl, rfl⟩ rfl rfl rfl rfl rfl (by kernel_rfl) Tryd.func9 (by kernel_rfl)
    (of_decide_eq_true (by kernel_rfl)) (by unfold Func.isWrapper; first | (rw [if_pos (by decide +kernel)]; kernel_rfl) | (rw [if_neg (by decide +kernel)]; exact ⟨rfl, rfl⟩))
    (fun os started H enc _ F => by rw [OpenClaim.pre_eq_preRow]; exact lifted os started H enc F)
theorem plain (f : FuncId) (fn : Func) (hf : Tryd.pinned.checked.prog.funcNamed Rows.pathqShortRow.func = some f) (hfn : Tryd.pinned.checked.prog.funcs[f]? = some fn) :
    false = Tryd.pinned.checked.prog.looks [] ∧ ∀ (j : Nat) t, fn.params[j]? = some t → Tryd.pinned.checked.prog.wantsStandIn t = false := by
  obtain rfl : f = 9 := Option.some.inj ((show Tryd.prog.funcNamed Rows.pathqShortRow.func = some 9 by kernel_rfl).symm.trans hf) |>.symm
  obtain rfl : fn = Tryd.f9 := (Option.some.inj (Tryd.func9.symm.trans hfn)).symm
  refine ⟨by kernel_rfl, fun j t ht => ?_⟩
  rw [Tryd.params9] at ht
  have hm : t ∈ [9] := by simpa using Array.mem_of_getElem? ht
  have hall : ([9].all fun u => !Tryd.prog.wantsStandIn u) = true := by kernel_rfl
  exact (show Tryd.prog.wantsStandIn t = false by simpa using List.all_eq_true.1 hall t hm)
end PathqShort

theorem pathqShort_holds : Rows.PathqShortCardSaid :=
  Claim7.holds_tied_plain_at .later [] _ _ _ _ PathqShort.over (fun _ h => by cases h) (by kernel_rfl) (fun _ h => by cases h) pathqShort_row_tie rfl ⟨rfl, rfl⟩ (by kernel_rfl) rfl PathqShort.plain (by kernel_rfl)
#print axioms pathqShort_holds
end Go.Proofs.YtncgkglebpobpaaDoor
