/- What the rows' condition on the listed variables gives the walks: the tables' cells. And that the program's own start-up leaves a memory that meets it. -/
import Derived.Test.YtmgemdhpjibdiaaDoorQTab
import Derived.ProofKit
import Derived.LaidMore
import Derived.OpenShut
import Derived.Stop.Joined
import Derived.Deep.Strs
import Derived.Stop.LaidErr
namespace Go.Proofs.YtmgemdhpjibdiaaDoor
open Go.ChangeShapes Go.WideShapes Go.ChangeAt Go.RowKit

theorem own : ownKnob Tryd.prog.godebug = none := by kernel_rfl
/-- The listed variables, as the row has them. -/
def laidT : List (String × DataW Unit) := Rows.pathqReadsRow.laid
theorem gTab : Tryd.prog.globalNamed "incunable/glyph.stretches" = some 2 := by kernel_rfl
theorem gAx : Tryd.prog.globalNamed "incunable/pathq.axes" = some 0 := by kernel_rfl
theorem gTe : Tryd.prog.globalNamed "incunable/pathq.tests" = some 1 := by kernel_rfl
theorem tTab : (Tryd.prog.globals[2]?).map (·.type) = some 176 := by kernel_rfl
theorem tAx : (Tryd.prog.globals[0]?).map (·.type) = some 119 := by kernel_rfl
theorem tTe : (Tryd.prog.globals[1]?).map (·.type) = some 120 := by kernel_rfl
theorem tPow : (Tryd.prog.globals[4]?).map (·.type) = some 195 := by kernel_rfl
theorem cStretch : Tryd.prog.cellsOf 175 = 3 := by kernel_rfl
theorem cTab : Tryd.prog.cellsOf 176 = 75 := by kernel_rfl
theorem cAx : Tryd.prog.cellsOf 119 = 9 := by kernel_rfl
theorem cTe : Tryd.prog.cellsOf 120 = 5 := by kernel_rfl
theorem cStr : Tryd.prog.cellsOf 9 = 1 := by kernel_rfl
theorem cInt : Tryd.prog.cellsOf 3 = 1 := by kernel_rfl
theorem cRune : Tryd.prog.cellsOf 21 = 1 := by kernel_rfl
def rowD (r : Int × Int × Int) : DataW Unit := .agg [.lit (.int .i64 r.1), .lit (.int .i32 r.2.1), .lit (.int .i32 r.2.2)]
theorem laid_rows : (Rows.laid_incunable_glyph_stretches : DataW Unit) = .agg (G.rows.map rowD) := rfl
def strD (l : List UInt8) : DataW Unit := .lit (.string l)
def axL : List (List UInt8) := (List.range 9).map fun (k : Nat) => Q.axisW (k : Int)
def teL : List (List UInt8) := (List.range 5).map fun (k : Nat) => Q.testW (k : Int)
theorem laid_ax : (Rows.laid_incunable_pathq_axes : DataW Unit) = .agg (axL.map strD) := rfl
theorem laid_te : (Rows.laid_incunable_pathq_tests : DataW Unit) = .agg (teL.map strD) := rfl

theorem take_one {l : List Value} {i : Nat} {v : Value} (h : (l.drop i).take 1 = [v]) : l[i]? = some v := by
  have := congrArg (fun x : List Value => x[0]?) h
  simpa [List.getElem?_take, List.getElem?_drop] using this

theorem stretches_of {W : World} {rest : List (String × DataW Unit)} (h : laidMet Tryd.prog (("incunable/glyph.stretches", Rows.laid_incunable_glyph_stretches) :: rest) W) : Tab W := by
  obtain ⟨ps, ⟨g0, t0, cs0, f0, p0, q0, hg0, ht0, hv0, hd0, _, _⟩, _⟩ := h
  obtain rfl := Option.some.inj (gTab.symm.trans hg0)
  obtain rfl := Option.some.inj (tTab.symm.trans ht0)
  have hcell : ∀ i, W.cell? ⟨2, i, none⟩ = cs0[i]? := fun i => World.var?_cell hg0 hv0 i
  obtain ⟨xs, m, _, hx, hlen, hn, hel⟩ := DataW.trod_array Tryd.underlying176 hd0
  rw [cTab] at hlen
  rw [laid_rows] at hx
  simp only [Prod.mk.injEq, DataW.agg.injEq] at hx
  have all : ∀ k, k < 25 → cs0[k * 3]? = some (.int .i64 (G.useAt k)) ∧ cs0[k * 3 + 1]? = some (.int .i32 (G.lowAt k)) ∧ cs0[k * 3 + 2]? = some (.int .i32 (G.highAt k)) := by
    intro k hk
    have he := hel k hk
    rw [List.getElem?_eq_getElem (by omega)] at he
    have hr : (xs[k]'(by omega)).1 = rowD (G.rows.getD k (0, 0, 0)) := by
      have := congrArg (fun l : List (DataW Unit) => l[k]?) hx.1
      have hk2 : k < G.rows.length := hk
      simp only [List.getElem?_map, List.getElem?_eq_getElem hk2, List.getElem?_eq_getElem (show k < xs.length by omega), Option.map_some, Option.some.injEq] at this
      rw [← this]
      simp [List.getD, List.getElem?_eq_getElem hk2]
    obtain ⟨y0, y1, y2, n, hy, _, h0, h1, h2⟩ := Deep.trod_struct3 Tryd.underlying175 he
    rw [hy] at hr
    simp only [rowD, DataW.agg.injEq, List.cons.injEq, and_true] at hr
    simp only [cInt, cRune, cStretch] at h0 h1 h2
    obtain ⟨a0, e0, r0, _⟩ := DataW.trod_int Tryd.underlying3 h0
    obtain ⟨a1, e1, r1, _⟩ := DataW.trod_int Tryd.underlying21 h1
    obtain ⟨a2, e2, r2, _⟩ := DataW.trod_int Tryd.underlying21 h2
    rw [r0, r1, r2] at hr
    simp only [DataW.lit.injEq, Lit.int.injEq, true_and] at hr
    obtain ⟨u0, u1, u2⟩ := hr
    have q0 := take_one e0
    have q1 := take_one e1
    have q2 := take_one e2
    simp [List.getElem?_drop] at q0 q1 q2
    rw [u0] at q0
    rw [u1] at q1
    rw [u2] at q2
    exact ⟨q0, q1, q2⟩
  refine ⟨?_, fun k hk => (hcell _).trans (all k hk).1, fun k hk => (hcell _).trans (all k hk).2.1, fun k hk => (hcell _).trans (all k hk).2.2⟩
  have := (hcell 0).trans (all 0 (by omega)).1
  exact World.block_lt_of_cell? W _ this
theorem L_one {a : ByteArray} {l : List UInt8} (h : a.data.toList = l) : a = S.bA l := L.bytes_one (by rw [h]; rfl)
/-- An array of strings, cell by cell. -/
theorem strs_of {W : World} {name : String} {g n : Nat} {t : TypeId} {L : List (List UInt8)} {rest : List (String × DataW Unit)} (hg : Tryd.prog.globalNamed name = some g) (hty : (Tryd.prog.globals[g]?).map (·.type) = some t) (ht : Tryd.prog.underlying t = some (.array n 9)) (hc : Tryd.prog.cellsOf t = n) (hl : L.length = n) (h : laidMet Tryd.prog ((name, .agg (L.map strD)) :: rest) W) :
    ∀ k (hk : k < L.length), W.cell? ⟨g, k, none⟩ = some (.string (S.bA L[k])) := by
  obtain ⟨ps, ⟨g0, t0, cs0, f0, p0, q0, hg0, ht0, hv0, hd0, _, _⟩, _⟩ := h
  obtain rfl := Option.some.inj (hg.symm.trans hg0)
  obtain rfl := Option.some.inj (hty.symm.trans ht0)
  obtain ⟨xs, m, _, hx, hlen, hn, hel⟩ := DataW.trod_array ht hd0
  rw [hc] at hlen
  simp only [Prod.mk.injEq, DataW.agg.injEq] at hx
  intro k hk
  have hxl : xs.length = L.length := by have := congrArg List.length hx.1; simpa using this.symm
  have he := hel k (by omega)
  rw [List.getElem?_eq_getElem (by omega)] at he
  have hr : (xs[k]'(by omega)).1 = strD L[k] := by
    have := congrArg (fun l : List (DataW Unit) => l[k]?) hx.1
    simp only [List.getElem?_map, List.getElem?_eq_getElem hk, List.getElem?_eq_getElem (show k < xs.length by omega), Option.map_some, Option.some.injEq] at this
    rw [← this]
  simp only [cStr, Nat.mul_one] at he
  obtain ⟨a, e0, r0, _⟩ := DataW.trod_string Tryd.underlying9 he
  rw [r0] at hr
  simp only [strD, DataW.lit.injEq, Lit.string.injEq] at hr
  rw [World.var?_cell hg0 hv0 k, ← Array.getElem?_toList, take_one e0]
  rw [L_one hr]

theorem tab_of {W : World} (h : laidMetH Tryd.prog laidT W) : TabQ W := by
  rw [MakeChecks.laidMetH_plain _ _ _ (by kernel_rfl)] at h
  have h0 : laidMet Tryd.prog [("incunable/glyph.stretches", Rows.laid_incunable_glyph_stretches), ("math/bits.deBruijn32tab", Rows.laid_math_bits_deBruijn32tab), ("math/bits.deBruijn64tab", Rows.laid_math_bits_deBruijn64tab), ("internal/strconv.uint64pow10", Rows.laid_internal_strconv_uint64pow10), ("incunable/pathq.axes", Rows.laid_incunable_pathq_axes), ("incunable/pathq.tests", Rows.laid_incunable_pathq_tests)] W := h
  have h4 := laidMet.tail (laidMet.tail (laidMet.tail (laidMet.tail h0)))
  rw [laid_ax] at h4
  have h5 := laidMet.tail h4
  rw [laid_te] at h5
  have p := Lib.tabIs_of_head gPow tPow Tryd.underlying195 Tryd.underlying186 (by kernel_rfl) (by kernel_rfl) (k := .u64) (zs := Lib.pow10Tab) (h := laidMet.tail (laidMet.tail (laidMet.tail h0)))
  refine ⟨stretches_of h0, fun k hk => ?_, fun k hk => ?_, p⟩
  · have := strs_of gAx tAx Tryd.underlying119 cAx rfl h4 k (by simpa [axL] using hk)
    simpa [axL] using this
  · have := strs_of gTe tTe Tryd.underlying120 cTe rfl h5 k (by simpa [teL] using hk)
    simpa [teL] using this

/-- The memory that the door's own run leaves meets the condition. -/
theorem door_met (os : Os) (args : Array Value) : laidMetH Tryd.prog laidT ((World.doorLaid Tryd.prog 400 os).forCall (fun _ _ => 0) ⟨#[], args, []⟩).memory :=
  laidMetH_of_parts3 (fuel := 8) (laidMet_of_run' 8 (by kernel_rfl) (by kernel_rfl)) (by kernel_rfl) (by kernel_rfl)
end Go.Proofs.YtmgemdhpjibdiaaDoor
