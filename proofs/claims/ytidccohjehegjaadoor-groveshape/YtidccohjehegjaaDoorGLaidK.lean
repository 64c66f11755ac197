/- What the rows' condition on the table of ranges gives the walks: the table's cells. And that the program's own start-up leaves a memory that meets it. -/
import Derived.Test.YtidccohjehegjaaDoorK3
import Derived.ProofKit
import Derived.LaidMore
import Derived.OpenShut
import Derived.Stop.Joined
import Derived.Deep.Strs
namespace Go.Proofs.YtidccohjehegjaaDoor
open Go.ChangeShapes Go.WideShapes Go.ChangeAt Go.RowKit

theorem own : ownKnob Tryd.prog.godebug = none := by kernel_rfl
/-- The listed variable's name, as the row has it. -/
def laidT : List (String × DataW Unit) := Rows.groveShapeRow.laid
theorem gTab : ∀ n ∈ Rows.groveShapeRow.named, Tryd.prog.globalNamed n = some 0 := by
  intro n hn
  simp only [Rows.groveShapeRow, List.mem_singleton] at hn
  subst hn
  kernel_rfl
theorem tTab : (Tryd.prog.globals[0]?).map (·.type) = some 116 := by kernel_rfl
theorem cStretch : Tryd.prog.cellsOf 115 = 3 := by kernel_rfl
theorem cTab : Tryd.prog.cellsOf 116 = 75 := by kernel_rfl
theorem cInt : Tryd.prog.cellsOf 3 = 1 := by kernel_rfl
theorem cRune : Tryd.prog.cellsOf 21 = 1 := by kernel_rfl
def rowD (r : Int × Int × Int) : DataW Unit := .agg [.lit (.int .i64 r.1), .lit (.int .i32 r.2.1), .lit (.int .i32 r.2.2)]
theorem laid_rows : (Rows.laid_incunable_glyph_stretches : DataW Unit) = .agg (G.rows.map rowD) := rfl

theorem take_one {l : List Value} {i : Nat} {v : Value} (h : (l.drop i).take 1 = [v]) : l[i]? = some v := by
  have := congrArg (fun x : List Value => x[0]?) h
  simpa [List.getElem?_take, List.getElem?_drop] using this

theorem tab_of {W : World} (h : laidMetH Tryd.prog laidT W) : Tab W := by
  rw [MakeChecks.laidMetH_plain _ _ _ (by kernel_rfl)] at h
  obtain ⟨ps, ⟨g0, t0, cs0, f0, p0, q0, hg0, ht0, hv0, hd0, _, _⟩, _, _⟩ := h
  obtain rfl := Option.some.inj ((gTab _ (List.mem_singleton.2 rfl)).symm.trans hg0)
  obtain rfl := Option.some.inj (tTab.symm.trans ht0)
  have hcell : ∀ i, W.cell? ⟨0, i, none⟩ = cs0[i]? := fun i => World.var?_cell hg0 hv0 i
  obtain ⟨xs, m, _, hx, hlen, hn, hel⟩ := DataW.trod_array Tryd.underlying116 hd0
  rw [cTab] at hlen
  rw [laid_rows] at hx
  simp only [Prod.mk.injEq, DataW.agg.injEq] at hx
  have all : ∀ k, k < 25 → cs0[k * 3]? = some (.int .i64 (G.useAt k)) ∧ cs0[k * 3 + 1]? = some (.int .i32 (G.lowAt k)) ∧ cs0[k * 3 + 2]? = some (.int .i32 (G.highAt k)) := by
    intro k hk
    have he := hel k hk
    rw [List.getElem?_eq_getElem (by omega)] at he
    have hr : (xs[k]'(by omega)).1 = rowD (G.rows.getD k (0, 0, 0)) := by
      have := congrArg (fun l : List (DataW Unit) => l[k]?) hx.1
      have hk2 : k < G.rows.length := hk
      simp only [List.getElem?_map, List.getElem?_eq_getElem hk2, List.getElem?_eq_getElem (show k < xs.length by omega), Option.map_some, Option.some.injEq] at this
      rw [← this]
      simp [List.getD, List.getElem?_eq_getElem hk2]
    obtain ⟨y0, y1, y2, n, hy, _, h0, h1, h2⟩ := Deep.trod_struct3 Tryd.underlying115 he
    rw [hy] at hr
    simp only [rowD, DataW.agg.injEq, List.cons.injEq, and_true] at hr
    simp only [cInt, cRune, cStretch] at h0 h1 h2
    obtain ⟨a0, e0, r0, _⟩ := DataW.trod_int Tryd.underlying3 h0
    obtain ⟨a1, e1, r1, _⟩ := DataW.trod_int Tryd.underlying21 h1
    obtain ⟨a2, e2, r2, _⟩ := DataW.trod_int Tryd.underlying21 h2
    rw [r0, r1, r2] at hr
    simp only [DataW.lit.injEq, Lit.int.injEq, true_and] at hr
    obtain ⟨u0, u1, u2⟩ := hr
    have q0 := take_one e0
    have q1 := take_one e1
    have q2 := take_one e2
    simp [List.getElem?_drop] at q0 q1 q2
    rw [u0] at q0
    rw [u1] at q1
    rw [u2] at q2
    exact ⟨q0, q1, q2⟩
  refine ⟨?_, fun k hk => (hcell _).trans (all k hk).1, fun k hk => (hcell _).trans (all k hk).2.1, fun k hk => (hcell _).trans (all k hk).2.2⟩
  have := (hcell 0).trans (all 0 (by omega)).1
  exact World.block_lt_of_cell? W _ this

/-- The memory that the door's own run leaves meets the condition. -/
theorem door_met (os : Os) (args : Array Value) : laidMetH Tryd.prog laidT ((World.doorLaid Tryd.prog 400 os).forCall (fun _ _ => 0) ⟨#[], args, []⟩).memory :=
  laidMetH_of_parts3 (fuel := 8) (laidMet_of_run' 8 (by kernel_rfl) (by kernel_rfl)) (by kernel_rfl) (by kernel_rfl)
end Go.Proofs.YtidccohjehegjaaDoor
