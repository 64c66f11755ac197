/- The walk of scribe's head: what the beginning of an element has within. -/
import Derived.Test.YtmnegpdegfianaaDoorPItems
import Derived.Test.YtmnegpdegfianaaDoorS2
import Derived.Deep.RegionWith
namespace Go.Proofs.YtmnegpdegfianaaDoor
open Go.RowKit Go.Shelf
/-- A page lies at block b and holds these bytes. -/
def PageAt (B b : Nat) (l : List UInt8) (w : World) : Prop := Lib.IsBuilderF 60 5 B b (Lib.byteCells l) w
theorem page_new (w : World) : PageAt w.heap.size w.heap.size [] (w.alloc (.cells #[.pointer none, .slice none 0 0] 60)) := Lib.IsBuilderF.of (Lib.fresh_isBuilder _ _ w)
theorem kept_below {e : TypeId} {b : Option Nat} {w w' : World} (hb : Below w.heap.size w w') : Lib.OthersKept e b w w' := fun k o h _ _ => by rw [hb.block k (lt_of_block h)]; exact h
theorem page_lt {B b : Nat} {l : List UInt8} {w : World} (h : PageAt B b l w) : b < w.heap.size := by
  rcases h with h | h
  · exact h.lt
  · exact h.lt
theorem sizeBld : (Tryd.prog.info? 58).map (fun i => i.size) = some 2 := by kernel_rfl
theorem liesPage : liesAt Tryd.prog Tryd.prog.depth 60 (2 / Tryd.prog.cellsOf 60) 0 58 1 = true := by kernel_rfl
theorem infoU8 : (Tryd.prog.info? 5).map (fun i => (i.zero, i.size, i.bytes)) = some (some (.int .u8 0), 1, 1) := by kernel_rfl
set_option maxHeartbeats 1000000 in
set_option maxRecDepth 100000 in
theorem check_used (b : Nat) (w : World) (h0 : w.cell? ⟨b, 0, none⟩ = some (.pointer (some ⟨b, 0, none⟩))) :
    Calls Tryd.prog 87 #[.pointer (some ⟨b, 0, none⟩)] w fun e w' => e = .returned (.tuple #[]) ∧ w' = w := by
  obtain ⟨j, hj, _⟩ := Option.map_eq_some_iff.1 sizeBld
  go_enter Tryd.func87, Tryd.ntmps87
  go_wp2
  rw [Lib.run_neq_ptr_same w _ Tryd.underlying55 hj]
  go_wp2
  go_end0
  exact ⟨rfl, rfl⟩
set_option maxHeartbeats 1000000 in
set_option maxRecDepth 100000 in
theorem check_fresh (b : Nat) (w : World) (h0 : w.cell? ⟨b, 0, none⟩ = some (.pointer none)) (hsh : w.shape? b = some (60, 2)) (hfz : w.frozen? ⟨b, 0, none⟩ = false) :
    Calls Tryd.prog 87 #[.pointer (some ⟨b, 0, none⟩)] w fun e w' => e = .returned (.tuple #[]) ∧ w' = w.setCell ⟨b, 0, none⟩ (.pointer (some ⟨b, 0, none⟩)) := by
  obtain ⟨j, hj, hjs⟩ := Option.map_eq_some_iff.1 sizeBld
  go_enter Tryd.func87, Tryd.ntmps87
  go_wp2
  rw [Lib.run_to_unsafe w ⟨b, 0, none⟩ Tryd.underlying55 Tryd.underlying140 hj (by rw [hjs]; decide) hsh (Nat.zero_lt_succ 1)]
  simp only [Result.andThen]
  rw [Oper.upon_value]
  go_wp2
  rw [run_callFunc_extern Tryd.func111 (by kernel_rfl) (by kernel_rfl) (by kernel_rfl) (e := Extern.AbiNoEscape.same) (by kernel_rfl)]
  rw [Lib.run_noEscape]
  simp only [Result.andThen]
  rw [Oper.upon_value]
  go_wp2
  rw [Lib.run_from_unsafe w ⟨b, 0, none⟩ Tryd.underlying140 Tryd.underlying55 hj hsh liesPage]
  simp only [Result.andThen]
  rw [Oper.upon_value]
  go_wp2
  go_end0
  exact ⟨rfl, rfl⟩
theorem check_any' (B b : Nat) (bs : List Value) (w : World) (h : Lib.IsBuilderF 60 5 B b bs w) :
    Calls Tryd.prog 87 #[.pointer (some ⟨b, 0, none⟩)] w fun e w' => e = .returned (.tuple #[]) ∧ (Lib.BuilderAtF 60 5 B b (.pointer (some ⟨b, 0, none⟩)) bs w' ∧ Below B w w' ∧ Lib.OthersKept 5 (some b) w w') := by
  rcases h with h | h
  · refine (check_fresh b w h.cell0 h.shape h.frozen0).mono ?_
    rintro e w' ⟨rfl, rfl⟩
    exact ⟨rfl, h.used _, (Below.refl B w).setCell (p := ⟨b, 0, none⟩) h.1 _, (Lib.OthersKept.refl _ _ w).setCell ⟨b, 0, none⟩ rfl _⟩
  · refine (check_used b w h.cell0).mono ?_
    rintro e w' ⟨rfl, rfl⟩
    exact ⟨rfl, h, Below.refl B _, Lib.OthersKept.refl _ _ _⟩
set_option maxHeartbeats 2000000 in
set_option maxRecDepth 100000 in
theorem pageWrites_any (B b : Nat) (bs : List Value) (s : ByteArray) (w : World) (h : Lib.IsBuilderF 60 5 B b bs w) (hlen : bs.length + s.size ≤ 140737488355328) (hBw : B ≤ w.heap.size) :
    Calls Tryd.prog 60 #[.pointer (some ⟨b, 0, none⟩), .string s] w fun e w' => e = .returned (.tuple #[.int .i64 s.size, .nilIface]) ∧ (Lib.BuilderAtF 60 5 B b (.pointer (some ⟨b, 0, none⟩)) (bs ++ Lib.strCells s) w' ∧ Below B w w' ∧ Lib.OthersKept 5 (some b) w w') := by
  obtain ⟨i0, hi, hz0, hz1, hz2⟩ := info_parts infoU8
  have CK := hid (check_any' B b bs w h)
  clear h
  go_enter Tryd.func60, Tryd.ntmps60
  go_wp2_with fail
  refine CK.out.mono ?_
  rintro e w1 ⟨rfl, h1, hb1, hk1⟩
  obtain ⟨hB, v, hbk, hown, hne⟩ := h1
  have c0 : w1.cell? ⟨b, 0, none⟩ = some (.pointer (some ⟨b, 0, none⟩)) := by rw [Lib.cell_of_heap hbk]; rfl
  have c1 : w1.cell? ⟨b, 1, none⟩ = some v := by rw [Lib.cell_of_heap hbk]; rfl
  go_wp2_with (at_builtin; refine Lib.wpList_append_own_stringF _ rfl _ _ 56 9 rfl B 5 i0 Tryd.underlying56 Tryd.underlying9 hi hz0 hz1 hz2 _ _ _ rfl hown s rfl ?c3 ?c4 ?c5 ?_)
  case c3 => unfold maxLen; omega
  case c4 => omega
  case c5 => have := hb1.size; omega
  intro v' w2 hown' hgrow _
  have hlt : b < w1.heap.size := lt_of_block hbk
  have hb2 : w2.heap[b]? = some (.cells #[.pointer (some ⟨b, 0, none⟩), v] 60 (0, 0)) := by
    rw [hgrow.block b hlt (fun e => hne e.symm)]
    exact hbk
  have d0 : w2.cell? ⟨b, 0, none⟩ = some (.pointer (some ⟨b, 0, none⟩)) := by rw [Lib.cell_of_heap hb2]; rfl
  have d1 : w2.cell? ⟨b, 1, none⟩ = some v := by rw [Lib.cell_of_heap hb2]; rfl
  have f1 : w2.frozen? ⟨b, 1, none⟩ = false := Lib.frozen_of_heap hb2 1
  obtain ⟨ao, n', cap, rfl⟩ : ∃ ao n' cap, v' = .slice ao n' cap := by
    rcases hown'.2 with ⟨hv, _⟩ | ⟨g, cap, cur, fz, hv, _⟩
    · exact ⟨_, _, _, hv⟩
    · exact ⟨_, _, _, hv⟩
  go_wp2
  go_ret2
  refine ⟨rfl, ?_, ?_, (hk1.grown hgrow (Lib.ownsRowF_kind hown)).setCell ⟨b, 1, none⟩ rfl _⟩
  · exact Lib.BuilderAtF.put (T := 60) (e := 5) hB hb2 (bs' := bs ++ Lib.strCells s) (by simpa [Lib.strCells_length] using hown') (by decide)
  · exact (hb1.grown hgrow (by have := hb1.size; omega) (fun k hk => (hown.lt k hk).1)).setCell (p := ⟨b, 1, none⟩) hB _
end Go.Proofs.YtmnegpdegfianaaDoor
namespace Go.Proofs.YtmnegpdegfianaaDoor
open Go.RowKit Go.Shelf
set_option maxHeartbeats 1000000 in
set_option maxRecDepth 100000 in
theorem pageString_some (B b : Nat) (l : List UInt8) (w : World) (h : Lib.IsBuilderF 60 5 B b (Lib.byteCells l) w) (h0 : l ≠ []) :
    Calls Tryd.prog 34 #[.pointer (some ⟨b, 0, none⟩)] w fun e w' => e = .returned (.string ⟨l.toArray⟩) ∧ (Lib.IsBuilderF 60 5 B b (Lib.byteCells l) w' ∧ Below B w w' ∧ Lib.OthersKept 5 (some b) w w') := by
  obtain ⟨p, hp, hAt⟩ : ∃ p, (p = .pointer none ∨ p = .pointer (some ⟨b, 0, none⟩)) ∧ Lib.BuilderAtF 60 5 B b p (Lib.byteCells l) w := by
    rcases h with h | h
    · exact ⟨_, .inl rfl, h⟩
    · exact ⟨_, .inr rfl, h⟩
  obtain ⟨hB, v, hbk, hown, hne⟩ := hAt
  have hl0 : l.length ≠ 0 := by simpa using h0
  rw [Lib.byteCells_length] at hown
  obtain ⟨g, cap, cur, fz, rfl, hbg, hg, hfz, hnc, hcm, hcs, htake⟩ : ∃ g cap cur fz, v = .slice (some ⟨g, 0, none⟩) l.length cap ∧ B ≤ g ∧ w.heap[g]? = some (.cells cur 5 fz) ∧ fz.2 ≤ l.length * 1 ∧ l.length ≤ cap ∧ cap ≤ maxLen ∧ cur.size = cap * 1 ∧ cur.toList.take (l.length * 1) = Lib.byteCells l := by
    rcases hown.2 with ⟨_, hz⟩ | ⟨g, cap, cur, fz, hv, r⟩
    · exact absurd hz hl0
    · exact ⟨g, cap, cur, fz, hv, r⟩
  have c1 : w.drew.cell? ⟨b, 1, none⟩ = some (.slice (some ⟨g, 0, none⟩) l.length cap) := by
    have : w.drew.heap[b]? = some (.cells #[p, .slice (some ⟨g, 0, none⟩) l.length cap] 60 (0, 0)) := hbk
    rw [Lib.cell_of_heap this]; rfl
  have hSD : (Builtin.unsafeSliceData_ #[56] 103 #[.slice (some ⟨g, 0, none⟩) l.length cap]).run Tryd.prog w.drew = .ok (.pointer (some ⟨g, 0, none⟩)) w.drew :=
    Lib.run_unsafeSliceData_row _ _ _ _ _ _ (by omega)
  have hUS : (Builtin.unsafeString_ #[103, 3] 9 #[.pointer (some ⟨g, 0, none⟩), .int .i64 l.length]).run Tryd.prog w.drew = .ok (.string ⟨l.toArray⟩) (w.drew.freeze ⟨g, 0, none⟩ l.length) := by
    refine Lib.run_unsafeString_row w.drew 103 3 9 5 Tryd.underlying103 extraS.cellsByte g cur.size (by have hg' : w.drew.heap[g]? = some (.cells cur 5 fz) := hg; simp [World.shape?, hg']) l h0 (by omega) (by unfold maxLen at hcm; omega) ?_
    intro j x hx
    exact hown.cells (g := g) rfl j (.int .u8 x.toNat) (by simp [Lib.byteCells, hx])
  have hkeep : Lib.IsBuilderF 60 5 B b (Lib.byteCells l) (w.drew.freeze ⟨g, 0, none⟩ l.length) := by
    have hA : Lib.BuilderAtF 60 5 B b p (Lib.byteCells l) w.drew := ⟨hB, _, hbk, by rw [Lib.byteCells_length]; exact hown, hne⟩
    have hF := hA.froze (g := g) (cap := cap) (by rw [Lib.byteCells_length]; exact c1)
    rw [Lib.byteCells_length] at hF
    rcases hp with rfl | rfl
    · exact .inl hF
    · exact .inr hF
  have mixed := laysS.mixed
  go_enter Tryd.func34, Tryd.ntmps34
  go_wp2
  go_region_o
  all_goals (go_wp2; go_ret; exact ⟨rfl, hkeep, Lib.below_freeze (Below.drew (Below.refl B w)) (p := ⟨g, 0, none⟩) hbg _, ((Lib.OthersKept.refl _ _ w).drew).freeze ⟨g, 0, none⟩ _ ⟨cur, fz, hg⟩⟩)
set_option maxHeartbeats 2000000 in
set_option maxRecDepth 100000 in
theorem pageString_nil (B b : Nat) (p : Value) (w : World) (hbk : w.heap[b]? = some (.cells #[p, .slice none 0 0] 60 (0, 0))) (hA : Lib.BuilderAtF 60 5 B b p [] w) :
    Calls Tryd.prog 34 #[.pointer (some ⟨b, 0, none⟩)] w fun e w' => e = .returned (.string ⟨#[]⟩) ∧ (Lib.BuilderAtF 60 5 B b p [] w' ∧ Below B w w' ∧ Lib.OthersKept 5 (some b) w w') := by
  have mixed := laysS.mixed
  have hUS : ∀ (W : World) (q : Option Addr), (Builtin.unsafeString_ #[103, 3] 9 #[.pointer q, .int .i64 0]).run Tryd.prog W = .ok (.string .empty) W := fun W q => Lib.run_unsafeString_none W _ _ _ q
  have c1 : w.drew.cell? ⟨b, 1, none⟩ = some (.slice none 0 0) := by
    have : w.drew.heap[b]? = some (.cells #[p, .slice none 0 0] 60 (0, 0)) := hbk
    rw [Lib.cell_of_heap this]; rfl
  have hSD : (Builtin.unsafeSliceData_ #[56] 103 #[.slice none 0 0]).run Tryd.prog w.drew = .ok (.pointer none) w.drew := rfl
  go_enter Tryd.func34, Tryd.ntmps34
  go_wp2
  go_region_o
  all_goals (go_wp2; go_ret; exact ⟨rfl, hA.drew, Below.drew (Below.refl B w), (Lib.OthersKept.refl _ _ w).drew⟩)
set_option maxHeartbeats 2000000 in
set_option maxRecDepth 100000 in
theorem pageString_noroom (B b g : Nat) (p : Value) (cur : Array Value) (w : World) (hBw : B ≤ w.heap.size) (hbk : w.heap[b]? = some (.cells #[p, .slice (some ⟨g, 0, none⟩) 0 0] 60 (0, 0))) (fz : Nat × Nat) (hg : w.heap[g]? = some (.cells cur 5 fz)) (hA : Lib.BuilderAtF 60 5 B b p [] w) :
    Calls Tryd.prog 34 #[.pointer (some ⟨b, 0, none⟩)] w fun e w' => e = .returned (.string ⟨#[]⟩) ∧ (Lib.BuilderAtF 60 5 B b p [] w' ∧ Below B w w' ∧ Lib.OthersKept 5 (some b) w w') := by
  have mixed := laysS.mixed
  have hUS : ∀ (W : World) (q : Option Addr), (Builtin.unsafeString_ #[103, 3] 9 #[.pointer q, .int .i64 0]).run Tryd.prog W = .ok (.string .empty) W := fun W q => Lib.run_unsafeString_none W _ _ _ q
  have hlt : b < w.heap.size := lt_of_block hbk
  have c1 : w.drew.cell? ⟨b, 1, none⟩ = some (.slice (some ⟨g, 0, none⟩) 0 0) := by
    have : w.drew.heap[b]? = some (.cells #[p, .slice (some ⟨g, 0, none⟩) 0 0] 60 (0, 0)) := hbk
    rw [Lib.cell_of_heap this]; rfl
  have hSD : (Builtin.unsafeSliceData_ #[56] 103 #[.slice (some ⟨g, 0, none⟩) 0 0]).run Tryd.prog w.drew = .ok (.pointer (some ⟨w.drew.heap.size, 0, none⟩)) (w.drew.alloc (.view ⟨g, 0, none⟩ 5)) :=
    Lib.run_unsafeSliceData_zero w.drew _ _ 5 Tryd.underlying103 ⟨g, 0, none⟩ 0 (5, cur.size) (by have hg' : w.drew.heap[g]? = some (.cells cur 5 fz) := hg; simp [World.shape?, hg'])
  have c2 : (w.drew.alloc (.view ⟨g, 0, none⟩ 5)).cell? ⟨b, 1, none⟩ = some (.slice (some ⟨g, 0, none⟩) 0 0) := by
    have : (w.drew.alloc (.view ⟨g, 0, none⟩ 5)).heap[b]? = _ := (Lib.alloc_old w.drew _ b hlt).trans hbk
    rw [Lib.cell_of_heap this]; rfl
  have c3 : (w.alloc (.view ⟨g, 0, none⟩ 5)).drew.cell? ⟨b, 1, none⟩ = some (.slice (some ⟨g, 0, none⟩) 0 0) := c2
  have c0 : w.cell? ⟨b, 1, none⟩ = some (.slice (some ⟨g, 0, none⟩) 0 0) := c1
  go_enter Tryd.func34, Tryd.ntmps34
  go_wp2
  go_region_o
  all_goals (go_wp2; go_ret; exact ⟨rfl, hA.drew.alloc _, (Below.drew (Below.refl B w)).alloc hBw _, ((Lib.OthersKept.refl _ _ w).drew).alloc _⟩)
set_option maxHeartbeats 2000000 in
set_option maxRecDepth 100000 in
theorem pageString_room (B b g cap : Nat) (p : Value) (w : World) (hc0 : cap ≠ 0) (hbk : w.heap[b]? = some (.cells #[p, .slice (some ⟨g, 0, none⟩) 0 cap] 60 (0, 0))) (hA : Lib.BuilderAtF 60 5 B b p [] w) :
    Calls Tryd.prog 34 #[.pointer (some ⟨b, 0, none⟩)] w fun e w' => e = .returned (.string ⟨#[]⟩) ∧ (Lib.BuilderAtF 60 5 B b p [] w' ∧ Below B w w' ∧ Lib.OthersKept 5 (some b) w w') := by
  have mixed := laysS.mixed
  have hUS : ∀ (W : World) (q : Option Addr), (Builtin.unsafeString_ #[103, 3] 9 #[.pointer q, .int .i64 0]).run Tryd.prog W = .ok (.string .empty) W := fun W q => Lib.run_unsafeString_none W _ _ _ q
  have c1 : w.drew.cell? ⟨b, 1, none⟩ = some (.slice (some ⟨g, 0, none⟩) 0 cap) := by
    have : w.drew.heap[b]? = some (.cells #[p, .slice (some ⟨g, 0, none⟩) 0 cap] 60 (0, 0)) := hbk
    rw [Lib.cell_of_heap this]; rfl
  have hSD : (Builtin.unsafeSliceData_ #[56] 103 #[.slice (some ⟨g, 0, none⟩) 0 cap]).run Tryd.prog w.drew = .ok (.pointer (some ⟨g, 0, none⟩)) w.drew :=
    Lib.run_unsafeSliceData_row _ _ _ _ _ _ hc0
  clear hc0
  go_enter Tryd.func34, Tryd.ntmps34
  go_wp2
  go_region_o
  all_goals (go_wp2; go_ret; exact ⟨rfl, hA.drew, Below.drew (Below.refl B w), (Lib.OthersKept.refl _ _ w).drew⟩)
theorem pageString_empty (B b : Nat) (w : World) (h : Lib.IsBuilderF 60 5 B b [] w) (hBw : B ≤ w.heap.size) :
    Calls Tryd.prog 34 #[.pointer (some ⟨b, 0, none⟩)] w fun e w' => e = .returned (.string ⟨#[]⟩) ∧ (Lib.IsBuilderF 60 5 B b [] w' ∧ Below B w w' ∧ Lib.OthersKept 5 (some b) w w') := by
  obtain ⟨p, hp, hA⟩ : ∃ p, (p = .pointer none ∨ p = .pointer (some ⟨b, 0, none⟩)) ∧ Lib.BuilderAtF 60 5 B b p [] w := by
    rcases h with h | h
    · exact ⟨_, .inl rfl, h⟩
    · exact ⟨_, .inr rfl, h⟩
  have fin : ∀ (e : Ending) (w' : World), (e = .returned (.string ⟨#[]⟩) ∧ (Lib.BuilderAtF 60 5 B b p [] w' ∧ Below B w w' ∧ Lib.OthersKept 5 (some b) w w')) → e = .returned (.string ⟨#[]⟩) ∧ (Lib.IsBuilderF 60 5 B b [] w' ∧ Below B w w' ∧ Lib.OthersKept 5 (some b) w w') := by
    rintro e w' ⟨he, hk, hb, ho⟩
    rcases hp with rfl | rfl
    · exact ⟨he, .inl hk, hb, ho⟩
    · exact ⟨he, .inr hk, hb, ho⟩
  have hA' := hA
  obtain ⟨hB, v, hbk, hown, hne⟩ := hA
  rcases hown.2 with ⟨rfl, _⟩ | ⟨g, cap, cur, fz, rfl, hbg, hg, _, _, _, _, _⟩
  · exact (pageString_nil B b p w hbk hA').mono fin
  · by_cases hc0 : cap = 0
    · subst hc0
      exact (pageString_noroom B b g p cur w hBw hbk fz hg hA').mono fin
    · exact (pageString_room B b g cap p w hc0 hbk hA').mono fin
theorem pageString_any (B b : Nat) (l : List UInt8) (w : World) (h : PageAt B b l w) (hBw : B ≤ w.heap.size) :
    Calls Tryd.prog 34 #[.pointer (some ⟨b, 0, none⟩)] w fun e w' => e = .returned (.string (S.bA l)) ∧ (PageAt B b l w' ∧ Below B w w' ∧ Lib.OthersKept 5 (some b) w w') := by
  cases l with
  | nil => exact pageString_empty B b w h hBw
  | cons x r => exact pageString_some B b (x :: r) w h (by simp)
/-- Texts, one behind the other. -/
def cat (ss : List ByteArray) : List UInt8 := ss.flatMap fun s => s.data.toList
theorem cat_cons (s : ByteArray) (ss : List ByteArray) : cat (s :: ss) = s.data.toList ++ cat ss := rfl
set_option maxHeartbeats 1000000 in
set_option maxRecDepth 100000 in
theorem put_any (B b g cap : Nat) (ss : List ByteArray) (l : List UInt8) (cs : Array Value) (fz : Nat × Nat) (w : World) (h : PageAt B b l w) (hBw : B ≤ w.heap.size) (hg : w.heap[g]? = some (.cells cs 9 fz)) (hc : ∀ j (h : j < ss.length), cs[j]? = some (.string ss[j])) (hn : ss.length ≤ 1048576) (hlen : l.length + (cat ss).length ≤ 140737488355328) :
    Calls Tryd.prog 28 #[.pointer (some ⟨b, 0, none⟩), .slice (some ⟨g, 0, none⟩) ss.length cap] w fun e w' => e = .returned (.tuple #[]) ∧ (PageAt B b (l ++ cat ss) w' ∧ Below B w w' ∧ Lib.OthersKept 5 (some b) w w') := by
  have HC := hid hc
  have HG := hid hg
  have HP := hid h
  have HN : Hid (some g ≠ some b) := hid (by
    intro q
    simp only [Option.some.injEq] at q
    subst q
    rcases h with ⟨_, v, hb, _⟩ | ⟨_, v, hb, _⟩
    · rw [hg] at hb; simp only [Option.some.injEq, Obj.cells.injEq] at hb; exact absurd hb.2.1 (by decide)
    · rw [hg] at hb; simp only [Option.some.injEq, Obj.cells.injEq] at hb; exact absurd hb.2.1 (by decide))
  clear hc hg h
  go_enter Tryd.func28, Tryd.ntmps28
  go_wp2
  go_loopw [8] (fun v8 W => ∃ q : Nat, v8 = .int .i64 (q : Int) ∧ q ≤ ss.length ∧ Hid (PageAt B b (l ++ cat (ss.take q)) W) ∧ Hid (Below B w W) ∧ Hid (Lib.OthersKept 5 (some b) w W)) (fun v8 _ => ss.length - (intOf v8).toNat)
  case atStart => exact ⟨0, rfl, by omega, hid (by simpa [cat] using HP.out), hid (Below.refl _ _), hid (Lib.OthersKept.refl _ _ _)⟩
  case round =>
    clear HP
    obtain ⟨q, rfl, hq, HP, HB, HO⟩ := hrel
    by_cases hlt : q < ss.length
    · have hlt' : (q : Int) < (ss.length : Int) := by omega
      have gq : wr.heap[g]? = some (.cells cs 9 fz) := HO.out g _ HG.out HN.out (fun c f e => by simp only [Obj.cells.injEq] at e; exact absurd e.2.1 (by decide))
      have cq : wr.cell? ⟨g, q, none⟩ = some (.string ss[q]) := by rw [Lib.cell_of_heap gq]; exact HC.out q hlt
      have HT : Hid (cat (ss.take (q + 1)) = cat (ss.take q) ++ ss[q].data.toList) := hid (by
        rw [List.take_succ_eq_append_getElem hlt]
        simp only [cat, List.flatMap_append, List.flatMap_cons, List.flatMap_nil, List.append_nil])
      have HL : Hid ((l ++ cat (ss.take q)).length + ss[q].size ≤ 140737488355328) := hid (by
        have e : cat ss = cat (ss.take (q + 1)) ++ cat (ss.drop (q + 1)) := by
          unfold cat
          rw [← List.flatMap_append, List.take_append_drop]
        have e2 := congrArg List.length e
        rw [HT.out] at e2
        simp only [List.length_append, Array.length_toList, ByteArray.size_data] at e2 ⊢
        omega)
      clear gq
      generalize ss[q] = s at *
      go_wp2_with fail
      refine (pageWrites_any B b _ s _ HP.out (by rw [Lib.byteCells_length]; exact HL.out) (Nat.le_trans hBw HB.out.size)).mono ?_
      rintro e w1 ⟨rfl, h1, b1, k1⟩
      have HP1 : Hid (PageAt B b (l ++ cat (ss.take (q + 1))) w1) := hid (by
        rw [HT.out, ← List.append_assoc]
        unfold PageAt
        rw [Lib.byteCells_append]
        exact Or.inr h1)
      have HB1 := hid (HB.out.trans b1)
      have HO1 := hid (HO.out.trans k1)
      clear h1 b1 k1 HP HB HO HL HT
      go_wp2
      go_roundw
      case rel => exact ⟨q + 1, by go_num, by omega, HP1, HB1, HO1⟩
      case measure => (simp [intOf]; try omega)
    · have hlt' : ¬ (q : Int) < (ss.length : Int) := by omega
      obtain rfl : q = ss.length := by omega
      have HP2 := HP.out
      rw [List.take_length] at HP2
      have HP3 := hid HP2
      clear HP2
      go_wp2
      go_end0
      exact ⟨rfl, HP3.out, HB.out, HO.out⟩
end Go.Proofs.YtmnegpdegfianaaDoor
namespace Go.Proofs.YtmnegpdegfianaaDoor
open Go.RowKit Go.Shelf
theorem page_below {B b : Nat} {l : List UInt8} {w w' : World} (h : PageAt B b l w) (hb : Below w.heap.size w w') : PageAt B b l w' := bld_below h hb
theorem below_new (w : World) (o : Obj) : Below w.heap.size w (w.alloc o) := (Below.refl _ _).alloc (Nat.le_refl _) o
theorem put1 (B b : Nat) (l : List UInt8) (s : ByteArray) (w : World) (g : Nat) (hg : g = w.heap.size) (h : PageAt B b l w) (hBw : B ≤ w.heap.size) (hlen : l.length + s.size ≤ 140737488355328) :
    Calls Tryd.prog 28 #[.pointer (some ⟨b, 0, none⟩), .slice (some ⟨g, 0, none⟩) 1 1] (w.alloc (.cells #[.string s] 9)) fun e w' => e = .returned (.tuple #[]) ∧ PageAt B b (l ++ s.data.toList) w' ∧ Below B w w' ∧ Lib.OthersKept 5 (some b) w w' := by
  subst hg
  have hb := below_new w (.cells #[.string s] 9)
  have := put_any B b w.heap.size 1 [s] l _ _ _ (page_below h hb) (Nat.le_trans hBw hb.size) (heap_alloc_new w _) (fun j hj => by
    match j, hj with
    | 0, _ => rfl) (by simp) (by simpa [cat] using hlen)
  refine Calls.mono this ?_
  rintro e w' ⟨h1, h2, h3, h4⟩
  exact ⟨h1, by simpa [cat] using h2, (hb.mono hBw).trans h3, (kept_below hb).trans h4⟩
theorem put3 (B b : Nat) (l : List UInt8) (s1 s2 s3 : ByteArray) (w : World) (g : Nat) (hg : g = w.heap.size) (h : PageAt B b l w) (hBw : B ≤ w.heap.size) (hlen : l.length + (s1.size + s2.size + s3.size) ≤ 140737488355328) :
    Calls Tryd.prog 28 #[.pointer (some ⟨b, 0, none⟩), .slice (some ⟨g, 0, none⟩) 3 3] (w.alloc (.cells #[.string s1, .string s2, .string s3] 9)) fun e w' => e = .returned (.tuple #[]) ∧ PageAt B b (l ++ (s1.data.toList ++ (s2.data.toList ++ s3.data.toList))) w' ∧ Below B w w' ∧ Lib.OthersKept 5 (some b) w w' := by
  subst hg
  have hb := below_new w (.cells #[.string s1, .string s2, .string s3] 9)
  have := put_any B b w.heap.size 3 [s1, s2, s3] l _ _ _ (page_below h hb) (Nat.le_trans hBw hb.size) (heap_alloc_new w _) (fun j hj => by
    match j, hj with
    | 0, _ => rfl
    | 1, _ => rfl
    | 2, _ => rfl) (by simp) (by simp [cat]; omega)
  refine Calls.mono this ?_
  rintro e w' ⟨h1, h2, h3, h4⟩
  exact ⟨h1, by simpa [cat] using h2, (hb.mono hBw).trans h3, (kept_below hb).trans h4⟩
theorem put5 (B b : Nat) (l : List UInt8) (s1 s2 s3 s4 s5 : ByteArray) (w : World) (g : Nat) (hg : g = w.heap.size) (h : PageAt B b l w) (hBw : B ≤ w.heap.size) (hlen : l.length + (s1.size + s2.size + s3.size + s4.size + s5.size) ≤ 140737488355328) :
    Calls Tryd.prog 28 #[.pointer (some ⟨b, 0, none⟩), .slice (some ⟨g, 0, none⟩) 5 5] (w.alloc (.cells #[.string s1, .string s2, .string s3, .string s4, .string s5] 9)) fun e w' => e = .returned (.tuple #[]) ∧ PageAt B b (l ++ (s1.data.toList ++ (s2.data.toList ++ (s3.data.toList ++ (s4.data.toList ++ s5.data.toList))))) w' ∧ Below B w w' ∧ Lib.OthersKept 5 (some b) w w' := by
  subst hg
  have hb := below_new w (.cells #[.string s1, .string s2, .string s3, .string s4, .string s5] 9)
  have := put_any B b w.heap.size 5 [s1, s2, s3, s4, s5] l _ _ _ (page_below h hb) (Nat.le_trans hBw hb.size) (heap_alloc_new w _) (fun j hj => by
    match j, hj with
    | 0, _ => rfl
    | 1, _ => rfl
    | 2, _ => rfl
    | 3, _ => rfl
    | 4, _ => rfl) (by simp) (by simp [cat]; omega)
  refine Calls.mono this ?_
  rintro e w' ⟨h1, h2, h3, h4⟩
  exact ⟨h1, by simpa [cat] using h2, (hb.mono hBw).trans h3, (kept_below hb).trans h4⟩
set_option maxHeartbeats 400000 in
theorem written_text (s r : ByteArray) (w : World) (ht : Tab w) (hm : s.size ≤ 20000000) (H : Hid (S.txtL s = r.data.toList)) :
    Calls Tryd.prog 31 #[.func (.func 32) #[] #[], .string s] w fun e w' => e = .returned (.string r) ∧ Below w.heap.size w w' := by
  have HT := hid (text_any s r _ w ht hm (hid ⟨H.out, rfl⟩))
  clear ht hm
  generalize (E.escL false s.data.toList).isSome = bb at HT
  go_enter Tryd.func31, Tryd.ntmps31
  go_wp2_with fail
  refine HT.out.mono ?_
  rintro e w1 ⟨rfl, hb⟩
  go_wp2
  go_ret
  exact ⟨rfl, hb⟩
set_option maxHeartbeats 400000 in
theorem written_value (s r : ByteArray) (w : World) (ht : Tab w) (hm : s.size ≤ 20000000) (H : Hid ((E.escL true s.data.toList).getD [] = r.data.toList)) :
    Calls Tryd.prog 31 #[.func (.func 63) #[] #[], .string s] w fun e w' => e = .returned (.string r) ∧ Below w.heap.size w w' := by
  have HT := hid (value_any s r _ w ht hm (hid ⟨H.out, rfl⟩))
  clear ht hm
  generalize (E.escL true s.data.toList).isSome = bb at HT
  go_enter Tryd.func31, Tryd.ntmps31
  go_wp2_with fail
  refine HT.out.mono ?_
  rintro e w1 ⟨rfl, hb⟩
  go_wp2
  go_ret
  exact ⟨rfl, hb⟩
end Go.Proofs.YtmnegpdegfianaaDoor
namespace Go.Proofs.YtmnegpdegfianaaDoor
open Go.RowKit Go.Shelf
namespace S
open P L G E
theorem atts_snoc : ∀ (l : List (Attr × List UInt8)) (a : Attr) (ev : List UInt8), attsL (l ++ [(a, ev)]) = attsL l ++ 32 :: attC a ev
  | [], a, ev => by simp [attsL]
  | (b, eb) :: l, a, ev => by
    rw [List.cons_append]
    simp only [attsL, atts_snoc l a ev, List.cons_append, List.append_assoc]
theorem atts_take (l : List Attr) (q : Nat) (h : q < l.length) : attsL (evs (l.take (q + 1))) = attsL (evs (l.take q)) ++ 32 :: (l[q].1.data.toList ++ ([61, 34] ++ ((escL true l[q].2.data.toList).getD [] ++ [34]))) := by
  rw [List.take_succ_eq_append_getElem h]
  unfold evs
  rw [List.map_append]
  exact atts_snoc _ _ _
theorem atts_le (l : List Attr) (q : Nat) (h : q < l.length) : (attsL (evs (l.take q)) ++ 32 :: (l[q].1.data.toList ++ ([61, 34] ++ ((escL true l[q].2.data.toList).getD [] ++ [34])))).length ≤ (attsL (evs l)).length := by
  rw [← atts_take l q h]
  have key : ∀ (a b : List Attr), (attsL (evs a)).length ≤ (attsL (evs (a ++ b))).length := by
    intro a b
    induction a with
    | nil => simp [evs, attsL]
    | cons x a ih =>
      unfold evs at ih ⊢
      simp only [List.map_cons, List.cons_append, attsL, List.length_cons, List.length_append] at ih ⊢
      omega
  have := key (l.take (q + 1)) (l.drop (q + 1))
  rwa [List.take_append_drop] at this
end S
set_option maxRecDepth 100000 in
set_option maxHeartbeats 2000000 in
theorem head_any (x : P.Itm) (v : Value) (r : ByteArray) (w : World) (I : Hid (AttrsIn v x.attrs w)) (ht : Tab w) (hv : Hid (∀ a ∈ x.attrs, a.2.size ≤ 20000000)) (hlen : x.name.size + (S.attsL (S.evs x.attrs)).length ≤ 140737488355328) (HR : Hid (x.name.data.toList ++ S.attsL (S.evs x.attrs) = r.data.toList)) :
    Calls Tryd.prog 33 #[itmV x v] w fun e w' => e = .returned (.string r) ∧ Below w.heap.size w w' := by
  obtain ⟨lv, kd, nm, tx, ats⟩ := x
  have HT := hid ht
  clear ht
  dsimp only at *
  obtain ⟨ao, cap, rfl, hl, hc⟩ := I.out
  have HCC := hid hc
  clear hc I
  unfold itmV
  dsimp only
  have HL := hid hlen
  clear hlen
  go_enter Tryd.func33, Tryd.ntmps33
  go_wp2_with fail
  have hA := below_new w (.cells #[.int .i64 lv, .int .i64 kd, .string nm, .string tx, .slice ao ats.length cap] 32)
  have hP := page_new (w.alloc (.cells #[.int .i64 lv, .int .i64 kd, .string nm, .string tx, .slice ao ats.length cap] 32))
  have hP2 := below_new (w.alloc (.cells #[.int .i64 lv, .int .i64 kd, .string nm, .string tx, .slice ao ats.length cap] 32)) (.cells #[.pointer none, .slice none 0 0] 60)
  have oI := heap_alloc_new w (.cells #[.int .i64 lv, .int .i64 kd, .string nm, .string tx, .slice ao ats.length cap] 32)
  have hWs : (w.alloc (.cells #[.int .i64 lv, .int .i64 kd, .string nm, .string tx, .slice ao ats.length cap] 32)).heap.size = w.heap.size + 1 := by simp
  generalize w.alloc (.cells #[.int .i64 lv, .int .i64 kd, .string nm, .string tx, .slice ao ats.length cap] 32) = W at *
  rw [hWs] at hP hP2
  refine (put1 (w.heap.size + 1) (w.heap.size + 1) [] nm _ _ (by simp [hWs]) hP (by simp [hWs]) (by have := HL.out; simp; omega)).mono ?_
  rintro e w1 ⟨rfl, p1, b1, _⟩
  have HBW : Hid (Below (w.heap.size + 1) W w1) := hid (hP2.trans b1)
  have HA := hid hA
  have OI : Hid (w1.heap[w.heap.size]? = some (.cells #[.int .i64 lv, .int .i64 kd, .string nm, .string tx, .slice ao ats.length cap] 32 (0, 0))) := hid ((HBW.out.block w.heap.size (by omega)).trans oI)
  have HP : Hid (PageAt (w.heap.size + 1) (w.heap.size + 1) (nm.data.toList ++ S.attsL (S.evs (ats.take 0))) w1) := hid (by simpa [S.evs, S.attsL] using p1)
  have HWS := hid hWs
  have c4 : w1.cell? ⟨w.heap.size, 4, none⟩ = some (.slice ao ats.length cap) := by rw [Lib.cell_of_heap OI.out]; rfl
  clear hP hP2 p1 b1 hA oI hWs OI
  go_wp2
  go_loopw [19] (fun v19 X => ∃ q : Nat, v19 = .int .i64 (q : Int) ∧ q ≤ ats.length ∧ Hid (PageAt (w.heap.size + 1) (w.heap.size + 1) (nm.data.toList ++ S.attsL (S.evs (ats.take q))) X) ∧ Hid (Below (w.heap.size + 1) W X)) (fun v19 _ => ats.length - (intOf v19).toNat)
  case atStart => exact ⟨0, rfl, by omega, HP, HBW⟩
  case round =>
    clear HP HBW c4
    obtain ⟨q, rfl, hq, HP, HB⟩ := hrel
    have HBw : Hid (Below w.heap.size w wr) := hid (HA.out.trans (HB.out.mono (by omega)))
    have hsz : w.heap.size + 1 ≤ wr.heap.size := by have := HB.out.size; rw [HWS.out] at this; exact this
    by_cases h1 : q < ats.length
    · have h1' : (q : Int) < (ats.length : Int) := by omega
      obtain ⟨g, o, rfl, hg, hc⟩ := HCC.out (by rintro rfl; simp at h1)
      obtain ⟨k0, k1⟩ := hc q h1
      have c0 : wr.cell? ⟨g, o + q * 2, none⟩ = some (.string ats[q].1) := (HBw.out.cell (p := ⟨g, o + q * 2, none⟩) hg).trans k0
      have c1 : wr.cell? ⟨g, o + q * 2 + 1, none⟩ = some (.string ats[q].2) := (HBw.out.cell (p := ⟨g, o + q * 2 + 1, none⟩) hg).trans k1
      have hF := hid (hv.out _ (List.getElem_mem h1))
      have HS := hid (S.atts_take ats q h1)
      have HL2 := hid (S.atts_le ats q h1)
      clear k0 k1 hc
      obtain ⟨ev, HE⟩ : ∃ ev : ByteArray, Hid ((E.escL true ats[q].2.data.toList).getD [] = ev.data.toList) := ⟨S.bA _, hid rfl⟩
      generalize ats[q].1 = an at *
      generalize ats[q].2 = av at *
      go_wp2_with fail
      obtain ⟨X, HX⟩ : ∃ X, Hid (X = wr.alloc (.cells #[.string an, .string av] 34)) := ⟨_, hid rfl⟩
      have HBX : Hid (Below wr.heap.size wr X) := hid (by rw [HX.out]; exact below_new _ _)
      have xs : wr.heap.size < X.heap.size := by rw [HX.out]; simp
      have oX : Hid (X.heap[wr.heap.size]? = some (.cells #[.string an, .string av] 34 (0, 0))) := hid (by rw [HX.out]; exact heap_alloc_new _ _)
      have x0 : X.cell? ⟨wr.heap.size, 0, none⟩ = some (.string an) := by rw [Lib.cell_of_heap oX.out]; rfl
      have x1 : X.cell? ⟨wr.heap.size, 1, none⟩ = some (.string av) := by rw [Lib.cell_of_heap oX.out]; rfl
      have HTX : Hid (Tab X) := hid ((HT.out.below HBw.out).below HBX.out)
      have HPX := hid (page_below HP.out HBX.out)
      have HBY : Hid (Below (w.heap.size + 1) W X) := hid (HB.out.trans (HBX.out.mono hsz))
      have HLE : Hid ((nm.data.toList ++ S.attsL (S.evs (ats.take q))).length + (1 + an.size + 2 + ev.size + 1) ≤ 140737488355328) := hid (by
        have h1 := HL.out
        have h2 := HL2.out
        rw [HE.out] at h2
        simp only [List.length_append, List.length_cons, List.length_nil, Array.length_toList, ByteArray.size_data] at h2 ⊢
        omega)
      have HSE : Hid (S.attsL (S.evs (ats.take (q + 1))) = S.attsL (S.evs (ats.take q)) ++ 32 :: (an.data.toList ++ ([61, 34] ++ (ev.data.toList ++ [34])))) := hid (by rw [HS.out, HE.out])
      rw [← HX.out]
      clear HX HP HB HL2 HS c0 c1 HBX
      go_region_with (first
        | (go_at_call 31
           refine (written_value av ev _ (HTX.out.below (Below.drew (Below.refl _ _))) hF.out HE).mono ?_
           rintro e w5 ⟨rfl, hb5⟩
           have y0 : w5.cell? ⟨wr.heap.size, 0, none⟩ = some (.string an) := (hb5.cell (p := ⟨wr.heap.size, 0, none⟩) xs).trans x0
           have HP5 := hid (page_below (w := World.drew X) HPX.out hb5)
           have HB5 : Hid (Below (w.heap.size + 1) W w5) := hid (Below.trans (Below.drew HBY.out) (hb5.mono (Nat.le_trans hsz (Nat.le_of_lt xs))))
           clear hb5)
        | (go_at_call 28
           refine (put5 (w.heap.size + 1) (w.heap.size + 1) _ ⟨#[32]⟩ an ⟨#[61, 34]⟩ ev ⟨#[34]⟩ w5 _ (by simp) HP5.out (by have := HB5.out.size; rw [HWS.out] at this; exact this) HLE.out).mono ?_
           rintro e w6 ⟨rfl, p6, b6, _⟩
           have HP6 : Hid (PageAt (w.heap.size + 1) (w.heap.size + 1) (nm.data.toList ++ S.attsL (S.evs (ats.take (q + 1)))) w6) := hid (by rw [HSE.out, ← List.append_assoc]; exact p6)
           have HB6 := hid (HB5.out.trans b6)
           clear p6 b6))
      all_goals
        go_wp2
        go_roundw
        case rel => exact ⟨q + 1, by go_num, by omega, HP6, HB6⟩
        case measure => (simp [intOf]; try omega)
    · have h1' : ¬ (q : Int) < (ats.length : Int) := by omega
      obtain rfl : q = ats.length := by omega
      have HP1 := HP.out
      rw [List.take_length, HR.out] at HP1
      have HP2 := hid HP1
      clear HP HP1
      go_wp2_with fail
      refine (pageString_any (w.heap.size + 1) (w.heap.size + 1) _ _ HP2.out hsz).mono ?_
      rintro e w5 ⟨rfl, _, b5, _⟩
      rw [S.bA_self]
      have HB5 : Hid (Below w.heap.size w w5) := hid (HBw.out.trans (b5.mono (by omega)))
      clear b5
      go_wp2
      go_ret
      exact ⟨rfl, HB5.out⟩
end Go.Proofs.YtmnegpdegfianaaDoor
