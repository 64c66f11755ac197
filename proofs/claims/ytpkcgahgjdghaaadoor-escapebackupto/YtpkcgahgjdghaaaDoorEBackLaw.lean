/- PROVED: of any text, EscapeBack returns true: what was escaped, as a text or as a value, is undone to what it was; the text reads afterwards as it read before. Its conditions: the text holds at most 1048576 values and letters, and the table of ranges reads when the call begins as the program's own text lays it (the card ties that). -/
import Derived.Test.YtpkcgahgjdghaaaDoorEAlive
import Derived.Test.YtpkcgahgjdghaaaDoorEBack
import Derived.Test.YtpkcgahgjdghaaaDoorGLaid
import Derived.Test.YtpkcgahgjdghaaaDoorTie
import Derived.Test.YtpkcgahgjdghaaaDoorCards
import Derived.SevenTiedAt
import Derived.Deep.DeepHandedRow
namespace Go.Proofs.YtpkcgahgjdghaaaDoor
open Go.ChangeShapes Go.WideShapes Go.ChangeAt Go.RowKit
open Go.ChangeMaps (open_string shut_string)
namespace EscapeBack

set_option maxRecDepth 100000 in
set_option maxHeartbeats 400000 in
theorem walk (s : ByteArray) (z0 : s.size ≤ 1048576) (w : World) (ht : Tab w) :
    Calls Tryd.prog 5 #[.string s] w fun e w' => e = .returned (.bool true) ∧ Below w.heap.size w w' := by
  have Ht : Hid (Tab w) := ht
  clear ht
  have HM : Hid (s.size ≤ 20000000) := by show _ ≤ _; omega
  obtain ⟨o, HO⟩ : ∃ o, Hid (G.chars s.data.toList = o) := ⟨_, rfl⟩
  cases o with
  | none =>
    have H1 : ∀ v, Hid (E.escL v s.data.toList = none) := by intro v; show _ = _; unfold E.escL; rw [HO.out]; rfl
    have H2 : ∀ v, Hid ((E.escL v s.data.toList).getD [] = (⟨#[]⟩ : ByteArray).data.toList ∧ (E.escL v s.data.toList).isSome = false) := by intro v; show _ ∧ _; rw [(H1 v).out]; exact ⟨rfl, rfl⟩
    have H3 := hid H2
    have HC : Hid (G.countZ s.data.toList = -1) := by show _ = _; unfold G.countZ; rw [HO.out]
    clear H1 H2
    go_enter Tryd.func5, Tryd.ntmps5
    go_wp2_with fail
    refine (text_any _ ⟨#[]⟩ false _ Ht.out HM.out (H3.out false)).mono ?_
    rintro e w1 ⟨rfl, hb1⟩
    go_wp2_with fail
    refine (value_any _ ⟨#[]⟩ false _ (Ht.out.below hb1) HM.out (H3.out true)).mono ?_
    rintro e w2 ⟨rfl, hb2⟩
    have hb3 : Below w.heap.size w w2 := hb1.trans (hb2.mono hb1.size)
    clear hb1 hb2
    go_wp2_with fail
    refine (alive2_any _ (Ht.out.below hb3)).mono ?_
    rintro e w3 ⟨rfl, hb4⟩
    have hb5 : Below w.heap.size w w3 := hb3.trans (hb4.mono hb3.size)
    clear hb3 hb4
    go_wp2_with fail
    refine (count_any _ (-1) _ (Ht.out.below hb5) (by have := HM.out; unfold maxLen; omega) HC).mono ?_
    rintro e w4 ⟨rfl, hb6⟩
    go_wp2
    go_ret
    exact ⟨rfl, hb5.trans (hb6.mono hb5.size)⟩
  | some cs =>
    obtain ⟨a, HA⟩ : ∃ a : ByteArray, Hid (cs.flatMap (E.escC false) = a.data.toList) := ⟨⟨(cs.flatMap (E.escC false)).toArray⟩, by show _ = _; simp⟩
    obtain ⟨b, HB⟩ : ∃ b : ByteArray, Hid (cs.flatMap (E.escC true) = b.data.toList) := ⟨⟨(cs.flatMap (E.escC true)).toArray⟩, by show _ = _; simp⟩
    have S1 : Hid (E.escL false s.data.toList = some a.data.toList) := by show _ = _; unfold E.escL; rw [HO.out, ← HA.out]; rfl
    have S2 : Hid (E.escL true s.data.toList = some b.data.toList) := by show _ = _; unfold E.escL; rw [HO.out, ← HB.out]; rfl
    have za : a.size ≤ 6 * s.size := by simpa using E.escL_len false _ _ S1.out
    have zb : b.size ≤ 6 * s.size := by simpa using E.escL_len true _ _ S2.out
    have U1 : Hid (E.undoL false a.data.toList = (s.data.toList, a.size, 0)) := hid (by simpa using E.back false _ _ S1.out)
    have U2 : Hid (E.undoL true b.data.toList = (s.data.toList, b.size, 0)) := hid (by simpa using E.back true _ _ S2.out)
    have H1 : Hid ((E.escL false s.data.toList).getD [] = a.data.toList ∧ (E.escL false s.data.toList).isSome = true) := by show _ ∧ _; rw [S1.out]; exact ⟨rfl, rfl⟩
    have H2 : Hid ((E.escL true s.data.toList).getD [] = b.data.toList ∧ (E.escL true s.data.toList).isSome = true) := by show _ ∧ _; rw [S2.out]; exact ⟨rfl, rfl⟩
    have HZ1 : Hid (a.size ≤ 140737488351232) := by show _ ≤ _; omega
    have HZ2 : Hid (b.size ≤ 140737488351232) := by show _ ≤ _; omega
    go_enter Tryd.func5, Tryd.ntmps5
    go_wp2_with fail
    refine (text_any _ a true _ Ht.out HM.out H1).mono ?_
    rintro e w1 ⟨rfl, hb1⟩
    go_wp2_with fail
    refine (value_any _ b true _ (Ht.out.below hb1) HM.out H2).mono ?_
    rintro e w2 ⟨rfl, hb2⟩
    have hb3 : Below w.heap.size w w2 := hb1.trans (hb2.mono hb1.size)
    clear hb1 hb2
    go_wp2_with fail
    refine (undo_any _ false s a.size 0 _ (Ht.out.below hb3) HZ1.out U1).mono ?_
    rintro e w3 ⟨rfl, hb4⟩
    have hb5 : Below w.heap.size w w3 := hb3.trans (hb4.mono hb3.size)
    clear hb3 hb4
    go_wp2_with fail
    refine (undo_any _ true s b.size 0 _ (Ht.out.below hb5) HZ2.out U2).mono ?_
    rintro e w4 ⟨rfl, hb6⟩
    have hb7 : Below w.heap.size w w4 := hb5.trans (hb6.mono hb5.size)
    clear hb5 hb6
    go_wp2_with fail
    refine (alive2_any _ (Ht.out.below hb7)).mono ?_
    rintro e w5 ⟨rfl, hb8⟩
    go_wp2
    go_ret
    exact ⟨rfl, hb7.trans (hb8.mono hb7.size)⟩
theorem contract (H : Type) (enc : TypeId × Value → H) (W : World) (base : Nat) (args : Array Value) (ds gs : List (DataW H)) (before : List MemPlace)
    (hval : ∀ (j : Nat) t v, Tryd.f5.params[j]? = some t → args[j]? = some v → Value.okWide Tryd.prog W .any base t v)
    (hW : DataW.Whole enc Tryd.prog Tryd.f5.params.toList Rows.escapeBackSpec.vars false W args.toList ds gs before) (hL : laidMetH Tryd.prog laidT W)
    (hk : Rows.uptoSmall H (ds ++ gs) = true) :
    Calls Tryd.prog 5 args W fun e W' => ∃ v, e = .returned v ∧ Rows.escapeBackSpec.post enc Tryd.prog Tryd.f5 false true false false W args v W' := by
  have hW' := hW
  obtain ⟨p, q, hA0, hV, rfl, hfz, hnd⟩ := hW
  have hA : DataW.TrodAll enc Tryd.prog W 0 (fun _ => true) true Tryd.f5.params.toList args.toList ds p := hA0
  rw [Tryd.params5] at hA hval
  obtain ⟨v0, vs0, d0, ds0, p0, q0, hargs, rfl, rfl, h0, r0⟩ := trodAll_cons hA
  obtain ⟨rfl, rfl, rfl⟩ := trodAll_nil r0
  obtain rfl : args = #[v0] := by cases args; simp_all
  obtain ⟨rfl, rfl⟩ := trodVars_none hV
  obtain ⟨a0, rfl, rfl, rfl, w0⟩ := open_string Tryd.underlying9 (hval 0 9 v0 rfl rfl) h0
  have hk1 : Rows.uptoBulkAll _ ≤ 1048576 := of_decide_eq_true hk
  simp only [List.append_nil, Rows.uptoBulkAll, Rows.uptoBulk, Array.length_toList, ByteArray.size_data] at hk1
  have z0 : a0.size ≤ 1048576 := by omega
  have hT := tab_of hL
  clear hA0 hL hk hk1
  simp only [List.append_nil] at hW'
  refine (walk a0 z0 W hT).mono fun e W' ⟨he, hb⟩ => ?_
  subst he
  exact ⟨_, rfl, _, _, _, [], [], [], hW', trodAll_mk1 (shut_bool Tryd.underlying4 _), (trodAll_cons_mk (shut_string Tryd.underlying9 w0) trodAll_mk0), rfl, hb.frame _, fun h => by cases h⟩

theorem reads (os : Os) {H : Type} (enc : TypeId × Value → H) : ∃ places, DataW.whole enc Tryd.prog ((World.doorLaid Tryd.prog 400 os).forCall (fun _ _ => 0) ⟨#[], #[.string ⟨#[]⟩], []⟩).memory Tryd.f5.params.toList Rows.escapeBackSpec.vars false #[Value.string ⟨#[]⟩].toList 8 = some ([.lit (.string [])], [], places) :=
  ⟨[], by kernel_rfl⟩
theorem laid_met (os : Os) (args : Array Value) : laidMet Tryd.prog Rows.escapeBackUptoRow.laid ((World.doorLaid Tryd.prog 400 os).forCall (fun _ _ => 0) ⟨#[], args, []⟩).memory :=
  laidMet_of_run' 8 (by kernel_rfl) (by kernel_rfl)

set_option maxRecDepth 100000 in
theorem lifted (os : Os) (started : os.Started) (H : Type) (enc : TypeId × Value → H) (F : Stop.Interp) :
    ReturnsInHanded {} Tryd.checked os 5 .any ((Rows.OpenSpec.upto Rows.escapeBackSpec).preRow enc Tryd.prog Tryd.f5 Rows.escapeBackUptoRow.domain false Rows.escapeBackUptoRow.laid) (((Rows.OpenSpec.upto Rows.escapeBackSpec).at F).post enc Tryd.prog Tryd.f5 false true false false) := by
  obtain ⟨places, hx⟩ := reads os enc
  refine returnsInHanded_of_row (C := Tryd.checked) (s := (Rows.OpenSpec.upto Rows.escapeBackSpec)) own started (by kernel_rfl) Tryd.func5
    (witness_row_at (enc := enc) (C := Tryd.checked) false (World.doorLaid Tryd.prog 400 os) #[.string ⟨#[]⟩] rfl (by kernel_rfl) (by kernel_rfl) (by kernel_rfl)
      (OpenSpec.preRow_of_cond 8 hx (by kernel_rfl) (fun k hk => by cases hk; kernel_rfl) (by kernel_rfl) (laid_met os _))) ?_
  intro W base args ds gs before hval hW _ hcond hsz hL _ _
  exact contract H enc W base args ds gs before hval hW hL (hcond _ rfl)

theorem over : Rows.EscapeBackUptoSaid :=
  OpenClaim.holds_of_cond 5 Tryd.f5 rfl rfl rfl rfl rfl rfl rfl ⟨rfl, rfl, rfl, rfl, rfl⟩ rfl rfl rfl rfl rfl (by kernel_rfl) Tryd.func5 (by kernel_rfl)
    (of_decide_eq_true (by kernel_rfl)) (by unfold Func.isWrapper; first | (rw [if_pos (by decide +kernel)]; kernel_rfl) | (rw [if_neg (by decide +kernel)]; exact ⟨rfl, rfl⟩))
    (fun os started H enc _ F => by rw [OpenClaim.pre_eq_preRow]; exact lifted os started H enc F)
theorem plain (f : FuncId) (fn : Func) (hf : Tryd.pinned.checked.prog.funcNamed Rows.escapeBackUptoRow.func = some f) (hfn : Tryd.pinned.checked.prog.funcs[f]? = some fn) :
    false = Tryd.pinned.checked.prog.looks [] ∧ ∀ (j : Nat) t, fn.params[j]? = some t → Tryd.pinned.checked.prog.wantsStandIn t = false := by
  obtain rfl : f = 5 := Option.some.inj ((show Tryd.prog.funcNamed Rows.escapeBackUptoRow.func = some 5 by kernel_rfl).symm.trans hf) |>.symm
  obtain rfl : fn = Tryd.f5 := (Option.some.inj (Tryd.func5.symm.trans hfn)).symm
  refine ⟨by kernel_rfl, fun j t ht => ?_⟩
  rw [Tryd.params5] at ht
  have hm : t ∈ [9] := by simpa using Array.mem_of_getElem? ht
  have hall : ([9].all fun u => !Tryd.prog.wantsStandIn u) = true := by kernel_rfl
  exact (show Tryd.prog.wantsStandIn t = false by simpa using List.all_eq_true.1 hall t hm)
end EscapeBack

theorem escapeBackUpto_holds : Rows.EscapeBackUptoCardSaid :=
  Claim7.holds_tied_plain_at .later [] _ _ _ _ EscapeBack.over (fun _ h => by cases h) (by kernel_rfl) (fun _ h => by cases h) escapeBackUpto_row_tie rfl ⟨rfl, rfl⟩ (by kernel_rfl) rfl EscapeBack.plain (by kernel_rfl)
#print axioms escapeBackUpto_holds
end Go.Proofs.YtpkcgahgjdghaaaDoor
