/- copy, clear, and a row laid over, at elements of more than one cell: over any program. -/
import Derived.Test.YtidccohjehegjaaDoorK4
import Derived.Laws.CopyRow
import Derived.Laws.IdiomCopy
import Derived.Shelf.Spec.SlicesInsertGrow
namespace Go.Proofs.YtidccohjehegjaaDoor
open Go.RowKit Go.Shelf
namespace N
/-- Cells laid over others from a place on. -/
def over (L : List Value) (o : Nat) (cs : List Value) : List Value := L.take o ++ (cs ++ L.drop (o + cs.length))
theorem over_len (L : List Value) (o : Nat) (cs : List Value) (h : o + cs.length ≤ L.length) : (over L o cs).length = L.length := by
  unfold over
  simp only [List.length_append, List.length_take, List.length_drop]
  omega
section
variable {P : Program}
theorem copy_run (w : World) (dT sT ty elem : TypeId) (k g o dLen dCap : Nat) (a : Addr) (sLen sCap n : Nat) (cur : List Value) (t : TypeId) (cs : List Value)
    (hu : P.underlying dT = some (.slice elem)) (hs : (P.info? elem).map (·.size) = some k)
    (hg : w.heap[g]? = some (.cells cur.toArray t (0, 0))) (hmin : Nat.min sLen dLen = n) (hn : cs.length = n * k)
    (hsrc : ∀ j v, cs[j]? = some v → w.cell? (a.add j) = some v) (hfit : o + cs.length ≤ cur.length) (h1 : ∀ v ∈ cs, v.oneCell' = true) :
    (Builtin.copy_ #[dT, sT] ty #[.slice (some ⟨g, o, none⟩) dLen dCap, .slice (some a) sLen sCap]).run P w =
      .ok (goInt n) (w.setRow g (over cur o cs).toArray) := by
  have hl := run_loadCells_list (P := P) w a cs hsrc
  have hst := run_storeCells_at P g o t cs 0 cur.toArray w hg (by simpa using hfit) h1
  cases hq : P.info? elem with
  | none => simp [hq] at hs
  | some i =>
    have hi : i.size = k := by simpa [hq] using hs
    simp only [Nat.add_zero, List.append_assoc] at hst
    simp [Builtin.copy_, run_underlying hu, Builtin.lenOf, Builtin.firstCells, sizeOf, typeInfo, hq, hi, hmin, ← hn, hl, hst, over]
theorem clear_run (w : World) (sT ty elem : TypeId) (g o len cap : Nat) (cur : List Value) (t : TypeId) (z : Value) (zs : List Value)
    (hu : P.underlying sT = some (.slice elem)) (hz : ∀ w, (zeroValue elem).run P w = .ok z w) (hzs : (Builtin.zeroCells z.cells len).toList = zs) (h0 : len ≠ 0)
    (hg : w.heap[g]? = some (.cells cur.toArray t (0, 0))) (hfit : o + zs.length ≤ cur.length) (h1 : ∀ v ∈ zs, v.oneCell' = true) :
    (Builtin.clear_ #[sT] ty #[.slice (some ⟨g, o, none⟩) len cap]).run P w = .ok (.tuple #[]) (w.setRow g (over cur o zs).toArray) := by
  have hst := run_storeCells_at P g o t zs 0 cur.toArray w hg (by simpa using hfit) h1
  simp only [Nat.add_zero, List.append_assoc] at hst
  cases len with
  | zero => exact absurd rfl h0
  | succ n => simp [Builtin.clear_, run_underlying hu, hz, hzs, hst, over]
end
theorem setRow_grown (w : World) (g : Nat) (cs : Array Value) : w.grownBy (w.setRow g cs) (some g) := ⟨rfl, rfl, rfl, by simp [World.setRow], fun b _ hb => setRow_other w g b cs (fun e => hb (by rw [e]))⟩
end N
end Go.Proofs.YtidccohjehegjaaDoor
