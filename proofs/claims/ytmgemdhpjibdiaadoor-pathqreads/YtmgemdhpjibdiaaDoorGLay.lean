/- The walk of glyph.lay: it lays the first number's lowest byte, and of each further number a byte of its lowest six bits; nothing that was there is written. -/
import Derived.Test.YtmgemdhpjibdiaaDoorGBits
import Derived.Test.YtmgemdhpjibdiaaDoorRows
import Derived.Laws.BytesArg
import Derived.WalkSpells
import Derived.WalkLawsBesides
namespace Go.Proofs.YtmgemdhpjibdiaaDoor
open Go.RowKit
theorem info_u8 : (Tryd.prog.info? 5).map (fun i => (i.zero, i.size, i.bytes)) = some (some (.int .u8 0), 1, 1) := by kernel_rfl
namespace G
def layTo (f : Int) (xs : List Int) (k : Nat) : List Int := (f % 256) :: (xs.take k).map (fun r => 128 + r % 64)
theorem layTo_len (f : Int) (xs : List Int) (k : Nat) (h : k ≤ xs.length) : (layTo f xs k).length = k + 1 := by simp [layTo]; omega
theorem layTo_succ (f : Int) (xs : List Int) (k : Nat) (h : k < xs.length) : layTo f xs (k + 1) = layTo f xs k ++ [128 + xs[k] % 64] := by
  unfold layTo
  rw [List.take_succ_eq_append_getElem h]
  simp only [List.map_append, List.map_cons, List.map_nil, List.cons_append]
theorem lay_end {w : World} {base : Nat} {v : Value} {n : Nat} {xs : List Int} (h : w.ownsRow base 5 1 v (n + 1) (xs.map (Value.int .u8))) :
    (convert 112 9 v).run Tryd.prog w = .ok (.string (strOfNums xs)) w := by
  obtain ⟨hl, ⟨_, h0⟩ | ⟨g, cap, cur, rfl, _, hg, hle, hm, hcur, ht⟩⟩ := h
  · omega
  · have hxl : xs.length = n + 1 := by simpa using hl
    refine run_convert_bytes_arg w 112 5 Tryd.underlying112 Tryd.underlying5 g 0 (n + 1) cap xs hxl ?_ 9 Tryd.underlying9
    intro i hi
    rw [cell_of_row w g (0 + i) cur _ _ hg]
    have := congrArg (fun l : List Value => l[i]?) ht
    simp [hi] at this
    rw [List.getElem?_eq_getElem (by omega)] at this
    simpa [List.getD, List.getElem?_eq_getElem (show i < xs.length by omega)] using this
end G

set_option maxHeartbeats 400000 in
theorem lay_any (f : Int) (xs : List Int) (b off : Nat) (w : World) (hx : xs.length ≤ 3) (hn : ∀ i, (h : i < xs.length) → 0 ≤ xs[i] ∧ xs[i] < 2147483648)
    (hc : ∀ i, i < xs.length → w.cell? ⟨b, off + i, none⟩ = some (.int .i32 (xs.getD i 0))) (hb : b < w.heap.size) :
    Calls Tryd.prog 161 #[.int .i32 f, .slice (some ⟨b, off, none⟩) xs.length xs.length] w fun e w' => e = .returned (.string (strOfNums (G.layTo f xs xs.length))) ∧ Below w.heap.size w w' := by
  obtain ⟨i0, hi, hz0, hz1, hz2⟩ := info_parts info_u8
  go_enter Tryd.func161, Tryd.ntmps161
  go_wp2
  go_loopw [5, 13] (fun v i W => ∃ k : Nat, k ≤ xs.length ∧ i = .int .i64 k ∧ W.ownsRow w.heap.size 5 1 v (k + 1) ((G.layTo f xs k).map (Value.int .u8)) ∧ Below w.heap.size w W) (fun _ i _ => xs.length - (intOf i).toNat)
  case atStart =>
    refine ⟨0, by omega, rfl, ?_, (Below.refl _ _).alloc (Nat.le_refl _) _⟩
    exact World.ownsRow_lit w #[.int .u8 (f % 256)] 1 (Nat.le_refl _) (by unfold maxLen; omega) rfl
  case round =>
    obtain ⟨k, hk, rfl, hown, hbw⟩ := hrel
    by_cases hlt : k < xs.length
    · have hcx : wr.cell? ⟨b, off + k, none⟩ = some (.int .i32 (xs.getD k 0)) := (hbw.cell (by exact hb)).trans (hc k hlt)
      have hk1 := hn k hlt
      have H1 : Hid (G.layTo f xs (k + 1) = G.layTo f xs k ++ [128 + xs[k] % 64]) := G.layTo_succ f xs k hlt
      have H2 : Hid (bits .or .i32 128 (bits .and .i32 xs[k] 63) % 256 = 128 + xs[k] % 64) := G.layByte xs[k] hk1.1 hk1.2
      have hs := hbw.size
      clear hk1
      go_wp2_with (first
      | (at_builtin; refine wpList_append_own _ rfl _ _ 112 rfl w.heap.size 5 i0 (.int .u8 0) 1 1 Tryd.underlying112 hi hz0 hz1 hz2 rfl (by decide) _ _ _ rfl (hown.alloc _) ⟨wr.heap.size, 0, none⟩ 1 1 [.int .u8 (128 + xs[k] % 64)] rfl rfl ?c1 ?c2 ?c3 ?c4 ?c5 ?_)
      | go_in)
      case c1 =>
        intro j u hj
        rw [H2.out]
        match j, hj with
        | 0, hj => simp at hj; subst hj; simp [Addr.add]
      case c2 => intro u hu; simp at hu; subst hu; rfl
      case c3 => unfold maxLen; omega
      case c4 => omega
      case c5 => simp; omega
      intro v' w1 hown' hgrow _
      have R1 : Hid (w1.ownsRow w.heap.size 5 1 v' (k + 1 + 1) ((G.layTo f xs (k + 1)).map (Value.int .u8))) := by
        show w1.ownsRow _ _ _ _ _ _; rw [H1.out]; simpa using hown'
      have R2 : Below w.heap.size w w1 := (hbw.alloc hs _).grown hgrow (by simp; omega) (fun q hq => (hown.lt q hq).1)
      clear hown' hgrow hown hcx
      go_wp2
      go_roundw
      case rel => exact ⟨k + 1, by omega, by go_num, R1.out, R2⟩
      case measure => simp [intOf]; omega
    · have e : k = xs.length := by omega
      subst e
      have hv := G.lay_end hown
      clear hown
      go_wp2
      go_ret
      exact ⟨rfl, hbw⟩

set_option maxHeartbeats 400000 in
theorem lay_one (f : Int) (w : World) :
    Calls Tryd.prog 161 #[.int .i32 f, .slice none 0 0] w fun e w' => e = .returned (.string (strOfNums [f % 256])) ∧ Below w.heap.size w w' := by
  go_enter Tryd.func161, Tryd.ntmps161
  go_wp2
  refine wp_loop_rounds 1 ?_
  rw [rounds_succ]
  have hv := G.lay_end (xs := [f % 256]) (n := 0) (base := w.heap.size) (w := w.alloc (.cells #[.int .u8 (f % 256)] 5)) (World.ownsRow_lit w #[.int .u8 (f % 256)] 1 (Nat.le_refl _) (by unfold maxLen; omega) rfl)
  go_wp2
  go_ret
  exact ⟨rfl, (Below.refl _ _).alloc (Nat.le_refl _) _⟩
end Go.Proofs.YtmgemdhpjibdiaaDoor
