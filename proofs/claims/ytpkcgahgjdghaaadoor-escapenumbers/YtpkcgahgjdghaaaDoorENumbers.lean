/- PROVED: of any number of the type rune, EscapeNumbers returns true: a character is undone from its number, decimal and hexadecimal; a number that is no character's is refused; the argument reads afterwards as it read before. Its condition: the table of ranges reads when the call begins as the program's own text lays it (the card ties that). -/
import Derived.Test.YtpkcgahgjdghaaaDoorEAlive
import Derived.Test.YtpkcgahgjdghaaaDoorEBack
import Derived.Test.YtpkcgahgjdghaaaDoorENumPlain
import Derived.Test.YtpkcgahgjdghaaaDoorGLaid
import Derived.Test.YtpkcgahgjdghaaaDoorTie
import Derived.Test.YtpkcgahgjdghaaaDoorCards
import Derived.SevenTiedAt
import Derived.Deep.DeepHandedRow
namespace Go.Proofs.YtpkcgahgjdghaaaDoor
open Go.ChangeShapes Go.WideShapes Go.ChangeAt Go.RowKit
open Go.ChangeMaps (open_string shut_string)
namespace EscapeNumbers
theorem str_one (x : Int) (d : ByteArray) : (strOfNums [x] ++ d).data.toList = UInt8.ofNat x.toNat :: d.data.toList := by simp [strOfNums]
theorem byte_ten (n : Int) : E.hexV ((UInt8.ofNat (48 + n % 10).toNat).toNat : Int) = n % 10 ∧ n % 10 < 10 := by
  have e : ((UInt8.ofNat (48 + n % 10).toNat).toNat : Int) = 48 + n % 10 := G.toNat_byte _ (by omega) (by omega)
  rw [e]
  unfold E.hexV
  refine ⟨?_, by omega⟩
  rw [if_pos (by omega)]
  omega
theorem ten_list (d : ByteArray) : ((⟨#[38, 35]⟩ : ByteArray) ++ d ++ ⟨#[59]⟩).data.toList = [38, 35] ++ (d.data.toList ++ [59]) := by simp
theorem hex_list (d : ByteArray) : ((⟨#[38, 35, 120]⟩ : ByteArray) ++ d ++ ⟨#[59]⟩).data.toList = [38, 35, 120] ++ (d.data.toList ++ [59]) := by simp
theorem ten_size (d : ByteArray) : ((⟨#[38, 35]⟩ : ByteArray) ++ d ++ ⟨#[59]⟩).size = d.size + 3 := by
  rw [ByteArray.size_append, ByteArray.size_append]
  show 2 + d.size + 1 = _
  omega
theorem hex_size (d : ByteArray) : ((⟨#[38, 35, 120]⟩ : ByteArray) ++ d ++ ⟨#[59]⟩).size = d.size + 4 := by
  rw [ByteArray.size_append, ByteArray.size_append]
  show 3 + d.size + 1 = _
  omega
theorem und_ten (d : ByteArray) (c : Int) (d1 : 0 < d.size) (dk : d.size ≤ 7) (H : E.numOf 10 d.data.toList = c ∧ ∀ b ∈ d.data.toList, E.hexV (b.toNat : Int) < 10) :
    E.undoL true ((⟨#[38, 35]⟩ : ByteArray) ++ d ++ ⟨#[59]⟩).data.toList = if G.charB c = true then (G.putL c, d.size + 3, 0) else ([], 0, 21) := by
  have hl : d.data.toList.length = d.size := by simp
  have q := E.undo_ten true d.data.toList (by omega) (by omega) H.2
  rw [H.1] at q
  rw [ten_list, q, show ([38, 35] ++ (d.data.toList ++ [59]) : List UInt8).length = d.size + 3 by simp]
theorem und_hex (d : ByteArray) (c : Int) (d1 : 0 < d.size) (dk : d.size ≤ 7) (H : E.numOf 16 d.data.toList = c ∧ ∀ b ∈ d.data.toList, E.hexV (b.toNat : Int) < 16) :
    E.undoL false ((⟨#[38, 35, 120]⟩ : ByteArray) ++ d ++ ⟨#[59]⟩).data.toList = if G.charB c = true then (G.putL c, d.size + 4, 0) else ([], 0, 21) := by
  have hl : d.data.toList.length = d.size := by simp
  have q := E.undo_hex false d.data.toList (by omega) (by omega) H.2
  rw [H.1] at q
  rw [hex_list, q, show ([38, 35, 120] ++ (d.data.toList ++ [59]) : List UInt8).length = d.size + 4 by simp]
def hexC (m : Nat) : Int := if m < 10 then 48 + m else 87 + m
theorem hex_at (m : Nat) (h : m < (⟨#[48, 49, 50, 51, 52, 53, 54, 55, 56, 57, 97, 98, 99, 100, 101, 102]⟩ : ByteArray).size) : (((⟨#[48, 49, 50, 51, 52, 53, 54, 55, 56, 57, 97, 98, 99, 100, 101, 102]⟩ : ByteArray)[m]'h).toNat : Int) = hexC m := by
  have h16 : m < 16 := h
  have : m = 0 ∨ m = 1 ∨ m = 2 ∨ m = 3 ∨ m = 4 ∨ m = 5 ∨ m = 6 ∨ m = 7 ∨ m = 8 ∨ m = 9 ∨ m = 10 ∨ m = 11 ∨ m = 12 ∨ m = 13 ∨ m = 14 ∨ m = 15 := by omega
  rcases this with rfl | rfl | rfl | rfl | rfl | rfl | rfl | rfl | rfl | rfl | rfl | rfl | rfl | rfl | rfl | rfl <;> rfl
theorem hexC_range (m : Nat) (h : m < 16) : 0 ≤ hexC m ∧ hexC m < 256 := by
  unfold hexC; split <;> omega
theorem byte_hex (m : Nat) (h : m < 16) : E.hexV ((UInt8.ofNat (hexC m).toNat).toNat : Int) = m := by
  unfold hexC
  split
  · rw [G.toNat_byte _ (by omega) (by omega)]
    unfold E.hexV
    rw [if_pos (by omega)]; omega
  · rw [G.toNat_byte _ (by omega) (by omega)]
    unfold E.hexV
    rw [if_neg (by omega), if_pos (by omega)]; omega

set_option maxRecDepth 100000 in
set_option maxHeartbeats 400000 in
theorem walk (c : Int) (w : World) (ht : Tab w) :
    Calls Tryd.prog 9 #[.int .i32 c] w fun e w' => e = .returned (.bool true) ∧ Below w.heap.size w w' := by
  have Ht : Hid (Tab w) := ht
  clear ht
  by_cases out : c < 0 ∨ 9999999 < c
  · rcases out with q | q
    all_goals
      go_enter Tryd.func9, Tryd.ntmps9
      go_wp2_with fail
      refine (alive2_any _ Ht.out).mono ?_
      rintro e w1 ⟨rfl, hb1⟩
      go_wp2
      go_ret
      exact ⟨rfl, hb1⟩
  have c0 : 0 ≤ c := by omega
  have c1 : c ≤ 9999999 := by omega
  clear out
  go_enter Tryd.func9, Tryd.ntmps9
  go_wp2_with fail
  go_loopw [3, 5] (fun v3 v5 W => ∃ (n : Int) (d : ByteArray), v3 = .string d ∧ v5 = .int .i32 n ∧ d.size ≤ 7 ∧ 0 ≤ n ∧ n ≤ c ∧ Hid (n * 10 ^ d.data.toList.length + E.numOf 10 d.data.toList = c ∧ ∀ b ∈ d.data.toList, E.hexV (b.toNat : Int) < 10) ∧ Below w.heap.size w W) (fun v3 v5 _ => (intOf v5).toNat + (match v3 with | .string d => if d.size = 0 then 1 else 0 | _ => 0))
  case atStart => exact ⟨c, ⟨#[]⟩, rfl, rfl, by simp [ByteArray.size], c0, by omega, ⟨by simp [E.numOf], by simp⟩, Below.refl _ _⟩
  case round =>
    obtain ⟨n, d, rfl, rfl, dk, n0, n1, HD, hb⟩ := hrel
    have hs := hb.size
    by_cases more : 0 < n ∨ d.size = 0
    · have dl : d.size ≤ 6 := by
        rcases more with q | q
        · have := E.few 10 (by omega) E.pow_big10 n c _ HD.out.1 q c1
          simpa using this
        · omega
      obtain ⟨bt1, bt2⟩ := byte_ten n
      have HS : Hid (n / 10 * 10 ^ (strOfNums [48 + n % 10] ++ d).data.toList.length + E.numOf 10 (strOfNums [48 + n % 10] ++ d).data.toList = c ∧ ∀ b ∈ (strOfNums [48 + n % 10] ++ d).data.toList, E.hexV (b.toNat : Int) < 10) := by
        show _ ∧ _
        rw [str_one]
        refine ⟨E.digit_step 10 n _ _ c bt1 HD.out.1, ?_⟩
        intro b hb
        rcases List.mem_cons.1 hb with rfl | q
        · rw [bt1]; exact bt2
        · exact HD.out.2 b q
      clear bt1 bt2
      have hv := G.lay_end (xs := [48 + n % 10]) (n := 0) (base := wr.heap.size) (w := wr.alloc (.cells #[.int .u8 (48 + n % 10)] 5)) (World.ownsRow_lit wr #[.int .u8 (48 + n % 10)] 1 (Nat.le_refl _) (by unfold maxLen; omega) rfl)
      have sz : (strOfNums [48 + n % 10]).size = 1 := strOfNums_size _
      by_cases pos : 0 < n
      · clear more
        go_wp2
        go_roundw
        case rel => exact ⟨n / 10, strOfNums [48 + n % 10] ++ d, rfl, rfl, by rw [ByteArray.size_append]; omega, by omega, by omega, HS, hb.alloc hs _⟩
        case measure =>
          simp only [intOf, ByteArray.size_append, sz]
          repeat' split
          all_goals omega
      · have nz : n = 0 := by omega
        have dz : d.size = 0 := by omega
        have de : d.toList.isEmpty = true := emp_of d (by omega)
        clear more nz
        go_wp2
        go_roundw
        case rel => exact ⟨n / 10, strOfNums [48 + n % 10] ++ d, rfl, rfl, by rw [ByteArray.size_append]; omega, by omega, by omega, HS, hb.alloc hs _⟩
        case measure =>
          simp only [intOf, ByteArray.size_append, sz]
          repeat' split
          all_goals omega
    · have nz : n = 0 := by omega
      have d1 : 0 < d.size := by omega
      have de : d.toList.isEmpty = false := ne_of_pos d d1
      subst nz
      clear more n0 n1
      have HT : Hid (E.numOf 10 d.data.toList = c ∧ ∀ b ∈ d.data.toList, E.hexV (b.toNat : Int) < 10) := by
        refine ⟨?_, HD.out.2⟩
        have := HD.out.1
        rw [Int.zero_mul, Int.zero_add] at this
        exact this
      clear HD
      go_wp2
      go_loopw [4, 6] (fun v4 v6 W => ∃ (n : Int) (h : ByteArray), v4 = .string h ∧ v6 = .int .i32 n ∧ h.size ≤ 7 ∧ 0 ≤ n ∧ n ≤ c ∧ Hid (n * 16 ^ h.data.toList.length + E.numOf 16 h.data.toList = c ∧ ∀ b ∈ h.data.toList, E.hexV (b.toNat : Int) < 16) ∧ Below w.heap.size w W) (fun v4 v6 _ => (intOf v6).toNat + (match v4 with | .string h => if h.size = 0 then 1 else 0 | _ => 0))
      case atStart => exact ⟨c, ⟨#[]⟩, rfl, rfl, by simp [ByteArray.size], c0, by omega, ⟨by simp [E.numOf], by simp⟩, hb⟩
      case round =>
        clear hb hs
        obtain ⟨n, g, rfl, rfl, gk, n0, n1, HG, hb⟩ := hrel
        have hs := hb.size
        by_cases more : 0 < n ∨ g.size = 0
        · obtain ⟨m, hm⟩ : ∃ m : Nat, n % 16 = (m : Int) := ⟨(n % 16).toNat, by omega⟩
          have m16 : m < 16 := by omega
          have hv := G.lay_end (xs := [hexC m]) (n := 0) (base := wr.heap.size) (w := wr.alloc (.cells #[.int .u8 (hexC m)] 5)) (World.ownsRow_lit wr #[.int .u8 (hexC m)] 1 (Nat.le_refl _) (by unfold maxLen; omega) rfl)
          have hx : (((⟨#[48, 49, 50, 51, 52, 53, 54, 55, 56, 57, 97, 98, 99, 100, 101, 102]⟩ : ByteArray)[m]'(by show m < 16; exact m16)).toNat : Int) = hexC m := hex_at m m16
          have sz : (strOfNums [hexC m]).size = 1 := strOfNums_size _
          have gl : g.size ≤ 6 := by
            rcases more with q | q
            · have := E.few 16 (by omega) E.pow_big16 n c _ HG.out.1 q c1
              simpa using this
            · omega
          have HS : Hid (n / 16 * 16 ^ (strOfNums [hexC m] ++ g).data.toList.length + E.numOf 16 (strOfNums [hexC m] ++ g).data.toList = c ∧ ∀ b ∈ (strOfNums [hexC m] ++ g).data.toList, E.hexV (b.toNat : Int) < 16) := by
            show _ ∧ _
            rw [str_one]
            have bh := byte_hex m m16
            refine ⟨E.digit_step 16 n _ _ c (by rw [bh, hm]) HG.out.1, ?_⟩
            intro b hb
            rcases List.mem_cons.1 hb with rfl | q
            · rw [bh]; omega
            · exact HG.out.2 b q
          by_cases pos : 0 < n
          · clear more
            go_wp2
            go_roundw
            case rel => exact ⟨n / 16, strOfNums [hexC m] ++ g, rfl, rfl, by rw [ByteArray.size_append]; omega, by omega, by omega, HS, hb.alloc hs _⟩
            case measure =>
              simp only [intOf, ByteArray.size_append, sz]
              repeat' split
              all_goals omega
          · have gz : g.size = 0 := by omega
            have ge : g.toList.isEmpty = true := emp_of g (by omega)
            clear more
            go_wp2
            go_roundw
            case rel => exact ⟨n / 16, strOfNums [hexC m] ++ g, rfl, rfl, by rw [ByteArray.size_append]; omega, by omega, by omega, HS, hb.alloc hs _⟩
            case measure =>
              simp only [intOf, ByteArray.size_append, sz]
              repeat' split
              all_goals omega
        · have nz : n = 0 := by omega
          have g1 : 0 < g.size := by omega
          have ge : g.toList.isEmpty = false := ne_of_pos g g1
          subst nz
          have HX : Hid (E.numOf 16 g.data.toList = c ∧ ∀ b ∈ g.data.toList, E.hexV (b.toNat : Int) < 16) := by
            refine ⟨?_, HG.out.2⟩
            have := HG.out.1
            rw [Int.zero_mul, Int.zero_add] at this
            exact this
          clear more n0 n1 HG
          have U1 := hid (und_ten d c d1 dk HT.out)
          have U2 := hid (und_hex g c g1 gk HX.out)
          have Z1 : Hid (((⟨#[38, 35]⟩ : ByteArray) ++ d ++ ⟨#[59]⟩).size ≤ 140737488351232) := by show _ ≤ _; rw [ten_size]; omega
          have Z2 : Hid (((⟨#[38, 35, 120]⟩ : ByteArray) ++ g ++ ⟨#[59]⟩).size ≤ 140737488351232) := by show _ ≤ _; rw [hex_size]; omega
          clear HT HX
          cases cb : G.charB c
          · have CB : Hid (G.charB c = false) := cb
            have V1 : Hid (E.undoL true ((⟨#[38, 35]⟩ : ByteArray) ++ d ++ ⟨#[59]⟩).data.toList = ((⟨#[]⟩ : ByteArray).data.toList, 0, 21)) := by show _ = _; rw [U1.out, cb]; rfl
            have V2 : Hid (E.undoL false ((⟨#[38, 35, 120]⟩ : ByteArray) ++ g ++ ⟨#[59]⟩).data.toList = ((⟨#[]⟩ : ByteArray).data.toList, 0, 21)) := by show _ = _; rw [U2.out, cb]; rfl
            clear U1 U2 cb
            go_wp2_with fail
            refine (put_no _ _ (Ht.out.below hb) CB.out).mono ?_
            rintro e w2 ⟨rfl, hb2⟩
            have hb3 : Below w.heap.size w w2 := hb.trans (hb2.mono hs)
            clear hb hb2 hs
            go_wp2_with fail
            refine (undo_any _ true ⟨#[]⟩ 0 21 _ (Ht.out.below hb3) Z1.out V1).mono ?_
            rintro e w3 ⟨rfl, hb4⟩
            have hb5 : Below w.heap.size w w3 := hb3.trans (hb4.mono hb3.size)
            clear hb3 hb4
            go_wp2_with fail
            refine (undo_any _ false ⟨#[]⟩ 0 21 _ (Ht.out.below hb5) Z2.out V2).mono ?_
            rintro e w4 ⟨rfl, hb6⟩
            have hb7 : Below w.heap.size w w4 := hb5.trans (hb6.mono hb5.size)
            clear hb5 hb6
            go_wp2_with fail
            refine (alive2_any _ (Ht.out.below hb7)).mono ?_
            rintro e w5 ⟨rfl, hb8⟩
            go_wp2
            go_ret
            exact ⟨rfl, hb7.trans (hb8.mono hb7.size)⟩
          · have CB : Hid (G.charB c = true) := cb
            obtain ⟨t, HT⟩ : ∃ t, Hid (strOfNums (G.putN c) = t) := ⟨_, rfl⟩
            have V1 : Hid (E.undoL true ((⟨#[38, 35]⟩ : ByteArray) ++ d ++ ⟨#[59]⟩).data.toList = (t.data.toList, d.size + 3, 0)) := by show _ = _; rw [U1.out, if_pos cb, ← HT.out]; rfl
            have V2 : Hid (E.undoL false ((⟨#[38, 35, 120]⟩ : ByteArray) ++ g ++ ⟨#[59]⟩).data.toList = (t.data.toList, g.size + 4, 0)) := by show _ = _; rw [U2.out, if_pos cb, ← HT.out]; rfl
            clear U1 U2 cb
            go_wp2_with fail
            refine (put_yes _ _ (Ht.out.below hb) CB.out).mono ?_
            rintro e w2 ⟨rfl, hb2⟩
            rw [HT.out]
            have hb3 : Below w.heap.size w w2 := hb.trans (hb2.mono hs)
            clear hb hb2 hs
            go_wp2_with fail
            refine (undo_any _ true t _ 0 _ (Ht.out.below hb3) Z1.out V1).mono ?_
            rintro e w3 ⟨rfl, hb4⟩
            have hb5 : Below w.heap.size w w3 := hb3.trans (hb4.mono hb3.size)
            clear hb3 hb4
            go_wp2_with fail
            refine (undo_any _ false t _ 0 _ (Ht.out.below hb5) Z2.out V2).mono ?_
            rintro e w4 ⟨rfl, hb6⟩
            have hb7 : Below w.heap.size w w4 := hb5.trans (hb6.mono hb5.size)
            clear hb5 hb6
            go_wp2_with fail
            refine (alive2_any _ (Ht.out.below hb7)).mono ?_
            rintro e w5 ⟨rfl, hb8⟩
            go_wp2
            go_ret
            exact ⟨rfl, hb7.trans (hb8.mono hb7.size)⟩
theorem contract (H : Type) (enc : TypeId × Value → H) (W : World) (base : Nat) (args : Array Value) (ds gs : List (DataW H)) (before : List MemPlace)
    (hval : ∀ (j : Nat) t v, Tryd.f9.params[j]? = some t → args[j]? = some v → Value.okWide Tryd.prog W .any base t v)
    (hW : DataW.Whole enc Tryd.prog Tryd.f9.params.toList Rows.escapeNumbersSpec.vars false W args.toList ds gs before) (hL : laidMetH Tryd.prog laidT W)
    (hsz : (DataW.weightsEach Tryd.prog (Tryd.f9.params.toList ++ (OpenSpec.ofChange Rows.escapeNumbersSpec).bare.plain.varTypes Tryd.prog) (ds ++ gs)).all (· ≤ reachBytes) = true) :
    Calls Tryd.prog 9 args W fun e W' => ∃ v, e = .returned v ∧ Rows.escapeNumbersSpec.post enc Tryd.prog Tryd.f9 false true false false W args v W' := by
  have hW' := hW
  obtain ⟨p, q, hA0, hV, rfl, hfz, hnd⟩ := hW
  have hA : DataW.TrodAll enc Tryd.prog W 0 (fun _ => true) true Tryd.f9.params.toList args.toList ds p := hA0
  rw [Tryd.params9] at hA hval
  rw [Tryd.params9] at hsz
  obtain ⟨v0, vs0, d0, ds0, p0, q0, hargs, rfl, rfl, h0, r0⟩ := trodAll_cons hA
  obtain ⟨rfl, rfl, rfl⟩ := trodAll_nil r0
  obtain rfl : args = #[v0] := by cases args; simp_all
  obtain ⟨rfl, rfl⟩ := trodVars_none hV
  obtain ⟨a0, rfl, rfl, rfl, w0⟩ := open_int Tryd.underlying21 (hval 0 21 v0 rfl rfl) h0
  have hT := tab_of hL
  clear hA0 hL hsz
  simp only [List.append_nil] at hW'
  refine (walk a0  W hT).mono fun e W' ⟨he, hb⟩ => ?_
  subst he
  exact ⟨_, rfl, _, _, _, [], [], [], hW', trodAll_mk1 (shut_bool Tryd.underlying4 _), (trodAll_cons_mk (shut_int Tryd.underlying21 w0) trodAll_mk0), rfl, hb.frame _, fun h => by cases h⟩

theorem reads (os : Os) {H : Type} (enc : TypeId × Value → H) : ∃ places, DataW.whole enc Tryd.prog ((World.doorLaid Tryd.prog 400 os).forCall (fun _ _ => 0) ⟨#[], #[.int .i32 0], []⟩).memory Tryd.f9.params.toList Rows.escapeNumbersSpec.vars false #[Value.int .i32 0].toList 8 = some ([.lit (.int .i32 0)], [], places) :=
  ⟨[], by kernel_rfl⟩
theorem laid_met (os : Os) (args : Array Value) : laidMet Tryd.prog Rows.escapeNumbersRow.laid ((World.doorLaid Tryd.prog 400 os).forCall (fun _ _ => 0) ⟨#[], args, []⟩).memory :=
  laidMet_of_run' 8 (by kernel_rfl) (by kernel_rfl)

set_option maxRecDepth 100000 in
theorem lifted (os : Os) (started : os.Started) (H : Type) (enc : TypeId × Value → H) (F : Stop.Interp) :
    ReturnsInHanded {} Tryd.checked os 9 .any ((OpenSpec.ofChange Rows.escapeNumbersSpec).preRow enc Tryd.prog Tryd.f9 Rows.escapeNumbersRow.domain false Rows.escapeNumbersRow.laid) (((OpenSpec.ofChange Rows.escapeNumbersSpec).at F).post enc Tryd.prog Tryd.f9 false true false false) := by
  obtain ⟨places, hx⟩ := reads os enc
  refine returnsInHanded_of_row (C := Tryd.checked) (s := (OpenSpec.ofChange Rows.escapeNumbersSpec)) own started (by kernel_rfl) Tryd.func9
    (witness_row_at (enc := enc) (C := Tryd.checked) false (World.doorLaid Tryd.prog 400 os) #[.int .i32 0] rfl (by kernel_rfl) (by kernel_rfl) (by kernel_rfl)
      (OpenSpec.preRow_of_cond 8 hx (by kernel_rfl) (fun k hk => by cases hk) (by kernel_rfl) (laid_met os _))) ?_
  intro W base args ds gs before hval hW _ hcond hsz hL _ _
  exact contract H enc W base args ds gs before hval hW hL hsz

theorem over : Rows.EscapeNumbersSaid :=
  OpenClaim.holds_of_cond 9 Tryd.f9 rfl rfl rfl rfl rfl rfl rfl ⟨rfl, rfl, rfl, rfl, rfl⟩ rfl rfl rfl rfl rfl (by kernel_rfl) Tryd.func9 (by kernel_rfl)
    (of_decide_eq_true (by kernel_rfl)) (by unfold Func.isWrapper; first | (rw [if_pos (by decide +kernel)]; kernel_rfl) | (rw [if_neg (by decide +kernel)]; exact ⟨rfl, rfl⟩))
    (fun os started H enc _ F => by rw [OpenClaim.pre_eq_preRow]; exact lifted os started H enc F)
theorem plain (f : FuncId) (fn : Func) (hf : Tryd.pinned.checked.prog.funcNamed Rows.escapeNumbersRow.func = some f) (hfn : Tryd.pinned.checked.prog.funcs[f]? = some fn) :
    false = Tryd.pinned.checked.prog.looks [] ∧ ∀ (j : Nat) t, fn.params[j]? = some t → Tryd.pinned.checked.prog.wantsStandIn t = false := by
  obtain rfl : f = 9 := Option.some.inj ((show Tryd.prog.funcNamed Rows.escapeNumbersRow.func = some 9 by kernel_rfl).symm.trans hf) |>.symm
  obtain rfl : fn = Tryd.f9 := (Option.some.inj (Tryd.func9.symm.trans hfn)).symm
  refine ⟨by kernel_rfl, fun j t ht => ?_⟩
  rw [Tryd.params9] at ht
  have hm : t ∈ [21] := by simpa using Array.mem_of_getElem? ht
  have hall : ([21].all fun u => !Tryd.prog.wantsStandIn u) = true := by kernel_rfl
  exact (show Tryd.prog.wantsStandIn t = false by simpa using List.all_eq_true.1 hall t hm)
end EscapeNumbers

theorem escapeNumbers_holds : Rows.EscapeNumbersCardSaid :=
  Claim7.holds_tied_plain_at .later [] _ _ _ _ EscapeNumbers.over (fun _ h => by cases h) (by kernel_rfl) (fun _ h => by cases h) escapeNumbers_row_tie rfl ⟨rfl, rfl⟩ (by kernel_rfl) rfl EscapeNumbers.plain (by kernel_rfl)
#print axioms escapeNumbers_holds
end Go.Proofs.YtpkcgahgjdghaaaDoor
