/- PROVED: of any two texts that hold together at most 1048576 values and letters, GlyphCounts returns true: the program's Count tells what the document's tells, and of two texts of characters, one behind the other, the sum; both read afterwards as they read before. Its conditions: that bound, and that the table of ranges reads when the call begins as the program's own text lays it (the card ties that). -/
import Derived.Test.YthgdjdagmijkfaaDoorGAlive
import Derived.Test.YthgdjdagmijkfaaDoorGRAll
import Derived.Test.YthgdjdagmijkfaaDoorGLaid
import Derived.Test.YthgdjdagmijkfaaDoorTie
import Derived.Test.YthgdjdagmijkfaaDoorCards
import Derived.SevenTiedAt
import Derived.Deep.DeepHandedRow
namespace Go.Proofs.YthgdjdagmijkfaaDoor
open Go.ChangeShapes Go.WideShapes Go.ChangeAt Go.RowKit
open Go.ChangeMaps (open_string shut_string)
namespace GlyphCounts
theorem count_range (a : ByteArray) (n : Int) (h : G.countZ a.data.toList = n) : -1 ≤ n ∧ n ≤ a.size := by
  unfold G.countZ at h
  split at h
  · omega
  · rename_i cs e
    have := G.chars_len _ _ _ (Nat.le_refl _) e
    simp at this
    omega
theorem count_some (l : List UInt8) (n : Int) (h : G.countZ l = n) (h0 : 0 ≤ n) : ∃ cs, G.chars l = some cs ∧ n = (cs.length : Int) := by
  unfold G.countZ at h
  split at h
  · omega
  · rename_i cs e
    exact ⟨cs, e, h.symm⟩
theorem count_sum (a b : ByteArray) (n m : Int) (ha : G.countZ a.data.toList = n) (hb : G.countZ b.data.toList = m) (h0 : 0 ≤ n) (h1 : 0 ≤ m) : G.countZ (a ++ b).data.toList = n + m := by
  obtain ⟨xs, ex, rfl⟩ := count_some _ _ ha h0
  obtain ⟨ys, ey, rfl⟩ := count_some _ _ hb h1
  have : (a ++ b).data.toList = a.data.toList ++ b.data.toList := by simp
  rw [this]
  unfold G.countZ
  rw [G.chars_append _ _ _ xs ys (Nat.le_refl _) ex ey]
  simp

set_option maxRecDepth 100000 in
set_option maxHeartbeats 400000 in
theorem walk (a b : ByteArray) (z0 : a.size ≤ 1048576) (z1 : b.size ≤ 1048576) (w : World) (ht : Tab w) :
    Calls Tryd.prog 6 #[.string a, .string b] w fun e w' => e = .returned (.bool true) ∧ Below w.heap.size w w' := by
  have Ht : Hid (Tab w) := ht
  clear ht
  obtain ⟨n, HA⟩ : ∃ n, Hid (G.countZ a.data.toList = n) := ⟨_, rfl⟩
  obtain ⟨m, HB⟩ : ∃ m, Hid (G.countZ b.data.toList = m) := ⟨_, rfl⟩
  have HZ0 : Hid (a.size ≤ 1048576) := z0
  have HZ1 : Hid (b.size ≤ 1048576) := z1
  have na := count_range a n HA.out
  have nb := count_range b m HB.out
  go_enter Tryd.func6, Tryd.ntmps6
  go_wp2_with fail
  refine (count_any _ n _ Ht.out (by have := HZ0.out; unfold maxLen; omega) HA).mono ?_
  rintro e w1 ⟨rfl, hb1⟩
  go_wp2_with fail
  refine (count_any _ m _ (Ht.out.below hb1) (by have := HZ1.out; unfold maxLen; omega) HB).mono ?_
  rintro e w2 ⟨rfl, hb2⟩
  have hb3 : Below w.heap.size w w2 := hb1.trans (hb2.mono hb1.size)
  clear hb1 hb2
  go_wp2_with fail
  refine (alive_any _ (Ht.out.below hb3)).mono ?_
  rintro e w3 ⟨rfl, hb4⟩
  have hb5 : Below w.heap.size w w3 := hb3.trans (hb4.mono hb3.size)
  clear hb3 hb4
  go_wp2_with fail
  refine (rcount_any _ n _ HZ0.out HA).mono ?_
  rintro e w4 ⟨rfl, hb6⟩
  have hb7 : Below w.heap.size w w4 := hb5.trans (hb6.mono hb5.size)
  clear hb5 hb6
  go_wp2_with fail
  refine (rcount_any _ m _ HZ1.out HB).mono ?_
  rintro e w5 ⟨rfl, hb8⟩
  have hb9 : Below w.heap.size w w5 := hb7.trans (hb8.mono hb7.size)
  clear hb7 hb8
  by_cases n0 : n < 0
  · go_wp2
    go_ret
    exact ⟨rfl, hb9⟩
  by_cases m0 : m < 0
  · go_wp2
    go_ret
    exact ⟨rfl, hb9⟩
  · have HS : Hid (G.countZ (a ++ b).data.toList = n + m) := count_sum a b n m HA.out HB.out (by omega) (by omega)
    go_wp2_with fail
    refine (count_any _ (n + m) _ (Ht.out.below hb9) (by have := HZ0.out; have := HZ1.out; rw [ByteArray.size_append]; unfold maxLen; omega) HS).mono ?_
    rintro e w6 ⟨rfl, hb10⟩
    have hb11 : Below w.heap.size w w6 := hb9.trans (hb10.mono hb9.size)
    clear hb9 hb10
    go_wp2
    go_ret
    exact ⟨rfl, hb11⟩
theorem contract (H : Type) (enc : TypeId × Value → H) (W : World) (base : Nat) (args : Array Value) (ds gs : List (DataW H)) (before : List MemPlace)
    (hval : ∀ (j : Nat) t v, Tryd.f6.params[j]? = some t → args[j]? = some v → Value.okWide Tryd.prog W .any base t v)
    (hW : DataW.Whole enc Tryd.prog Tryd.f6.params.toList Rows.glyphCountsSpec.vars false W args.toList ds gs before) (hL : laidMetH Tryd.prog laidT W)
    (hk : Rows.uptoSmall H (ds ++ gs) = true) :
    Calls Tryd.prog 6 args W fun e W' => ∃ v, e = .returned v ∧ Rows.glyphCountsSpec.post enc Tryd.prog Tryd.f6 false true false false W args v W' := by
  have hW' := hW
  obtain ⟨p, q, hA0, hV, rfl, hfz, hnd⟩ := hW
  have hA : DataW.TrodAll enc Tryd.prog W 0 (fun _ => true) true Tryd.f6.params.toList args.toList ds p := hA0
  rw [Tryd.params6] at hA hval
  obtain ⟨v0, vs0, d0, ds0, p0, q0, hargs, rfl, rfl, h0, r0⟩ := trodAll_cons hA
  obtain ⟨v1, vs1, d1, ds1, p1, q1, rfl, rfl, rfl, h1, r1⟩ := trodAll_cons r0
  obtain ⟨rfl, rfl, rfl⟩ := trodAll_nil r1
  obtain rfl : args = #[v0, v1] := by cases args; simp_all
  obtain ⟨rfl, rfl⟩ := trodVars_none hV
  obtain ⟨a0, rfl, rfl, rfl, w0⟩ := open_string Tryd.underlying9 (hval 0 9 v0 rfl rfl) h0
  obtain ⟨a1, rfl, rfl, rfl, w1⟩ := open_string Tryd.underlying9 (hval 1 9 v1 rfl rfl) h1
  have hk1 : Rows.uptoBulkAll _ ≤ 1048576 := of_decide_eq_true hk
  simp only [List.append_nil, Rows.uptoBulkAll, Rows.uptoBulk, Array.length_toList, ByteArray.size_data] at hk1
  have z0 : a0.size ≤ 1048576 := by omega
  have z1 : a1.size ≤ 1048576 := by omega
  have hT := tab_of hL
  clear hA0 hL hk hk1
  simp only [List.append_nil] at hW'
  refine (walk a0 a1 z0 z1 W hT).mono fun e W' ⟨he, hb⟩ => ?_
  subst he
  exact ⟨_, rfl, _, _, _, [], [], [], hW', trodAll_mk1 (shut_bool Tryd.underlying4 _), (trodAll_cons_mk (shut_string Tryd.underlying9 w0) (trodAll_cons_mk (shut_string Tryd.underlying9 w1) trodAll_mk0)), rfl, hb.frame _, fun h => by cases h⟩

theorem reads (os : Os) {H : Type} (enc : TypeId × Value → H) : ∃ places, DataW.whole enc Tryd.prog ((World.doorLaid Tryd.prog 400 os).forCall (fun _ _ => 0) ⟨#[], #[.string ⟨#[]⟩, .string ⟨#[]⟩], []⟩).memory Tryd.f6.params.toList Rows.glyphCountsSpec.vars false #[Value.string ⟨#[]⟩, .string ⟨#[]⟩].toList 8 = some ([.lit (.string []), .lit (.string [])], [], places) :=
  ⟨[], by kernel_rfl⟩
theorem laid_met (os : Os) (args : Array Value) : laidMet Tryd.prog Rows.glyphCountsUptoRow.laid ((World.doorLaid Tryd.prog 400 os).forCall (fun _ _ => 0) ⟨#[], args, []⟩).memory :=
  laidMet_of_run' 8 (by kernel_rfl) (by kernel_rfl)

set_option maxRecDepth 100000 in
theorem lifted (os : Os) (started : os.Started) (H : Type) (enc : TypeId × Value → H) (F : Stop.Interp) :
    ReturnsInHanded {} Tryd.checked os 6 .any ((Rows.OpenSpec.upto Rows.glyphCountsSpec).preRow enc Tryd.prog Tryd.f6 Rows.glyphCountsUptoRow.domain false Rows.glyphCountsUptoRow.laid) (((Rows.OpenSpec.upto Rows.glyphCountsSpec).at F).post enc Tryd.prog Tryd.f6 false true false false) := by
  obtain ⟨places, hx⟩ := reads os enc
  refine returnsInHanded_of_row (C := Tryd.checked) (s := (Rows.OpenSpec.upto Rows.glyphCountsSpec)) own started (by kernel_rfl) Tryd.func6
    (witness_row_at (enc := enc) (C := Tryd.checked) false (World.doorLaid Tryd.prog 400 os) #[.string ⟨#[]⟩, .string ⟨#[]⟩] rfl (by kernel_rfl) (by kernel_rfl) (by kernel_rfl)
      (OpenSpec.preRow_of_cond 8 hx (by kernel_rfl) (fun k hk => by cases hk; kernel_rfl) (by kernel_rfl) (laid_met os _))) ?_
  intro W base args ds gs before hval hW _ hcond hsz hL _ _
  exact contract H enc W base args ds gs before hval hW hL (hcond _ rfl)

theorem over : Rows.GlyphCountsUptoSaid :=
  OpenClaim.holds_of_cond 6 Tryd.f6 rfl rfl rfl rfl rfl rfl rfl ⟨rfl, rfl, rfl, rfl, rfl⟩ rfl rfl rfl rfl rfl (by kernel_rfl) Tryd.func6 (by kernel_rfl)
    (of_decide_eq_true (by kernel_rfl)) (by unfold Func.isWrapper; first | (rw [if_pos (by decide +kernel)]; kernel_rfl) | (rw [if_neg (by decide +kernel)]; exact ⟨rfl, rfl⟩))
    (fun os started H enc _ F => by rw [OpenClaim.pre_eq_preRow]; exact lifted os started H enc F)
theorem plain (f : FuncId) (fn : Func) (hf : Tryd.pinned.checked.prog.funcNamed Rows.glyphCountsUptoRow.func = some f) (hfn : Tryd.pinned.checked.prog.funcs[f]? = some fn) :
    false = Tryd.pinned.checked.prog.looks [] ∧ ∀ (j : Nat) t, fn.params[j]? = some t → Tryd.pinned.checked.prog.wantsStandIn t = false := by
  obtain rfl : f = 6 := Option.some.inj ((show Tryd.prog.funcNamed Rows.glyphCountsUptoRow.func = some 6 by kernel_rfl).symm.trans hf) |>.symm
  obtain rfl : fn = Tryd.f6 := (Option.some.inj (Tryd.func6.symm.trans hfn)).symm
  refine ⟨by kernel_rfl, fun j t ht => ?_⟩
  rw [Tryd.params6] at ht
  have hm : t ∈ [9, 9] := by simpa using Array.mem_of_getElem? ht
  have hall : ([9, 9].all fun u => !Tryd.prog.wantsStandIn u) = true := by kernel_rfl
  exact (show Tryd.prog.wantsStandIn t = false by simpa using List.all_eq_true.1 hall t hm)
end GlyphCounts

theorem glyphCountsUpto_holds : Rows.GlyphCountsUptoCardSaid :=
  Claim7.holds_tied_plain_at .later [] _ _ _ _ GlyphCounts.over (fun _ h => by cases h) (by kernel_rfl) (fun _ h => by cases h) glyphCountsUpto_row_tie rfl ⟨rfl, rfl⟩ (by kernel_rfl) rfl GlyphCounts.plain (by kernel_rfl)
#print axioms glyphCountsUpto_holds
end Go.Proofs.YthgdjdagmijkfaaDoor
