/- PROVED: of any two texts, EscapeJoins returns true: what is made of two texts, one behind the other, is what is made of each; both read afterwards as they read before. Its conditions: the texts hold together at most 1048576 values and letters, and the table of ranges reads when the call begins as the program's own text lays it (the card ties that). -/
import Derived.Test.YtpkcgahgjdghaaaDoorEAlive
import Derived.Test.YtpkcgahgjdghaaaDoorEBack
import Derived.Test.YtpkcgahgjdghaaaDoorGLaid
import Derived.Test.YtpkcgahgjdghaaaDoorTie
import Derived.Test.YtpkcgahgjdghaaaDoorCards
import Derived.SevenTiedAt
import Derived.Deep.DeepHandedRow
namespace Go.Proofs.YtpkcgahgjdghaaaDoor
open Go.ChangeShapes Go.WideShapes Go.ChangeAt Go.RowKit
open Go.ChangeMaps (open_string shut_string)
namespace EscapeJoins
theorem given (v : Bool) (s : ByteArray) (p : Bool) (h : (G.chars s.data.toList).isSome = p) : ∃ r : ByteArray, r.data.toList = (E.escL v s.data.toList).getD [] ∧ Hid ((E.escL v s.data.toList).getD [] = r.data.toList ∧ (E.escL v s.data.toList).isSome = p) :=
  ⟨⟨((E.escL v s.data.toList).getD []).toArray⟩, by simp, by show _ ∧ _; rw [← h]; simp [E.escL]⟩

set_option maxRecDepth 100000 in
set_option maxHeartbeats 400000 in
theorem walk (a b : ByteArray) (z0 : a.size ≤ 1048576) (z1 : b.size ≤ 1048576) (w : World) (ht : Tab w) :
    Calls Tryd.prog 6 #[.string a, .string b] w fun e w' => e = .returned (.bool true) ∧ Below w.heap.size w w' := by
  have Ht : Hid (Tab w) := ht
  clear ht
  have HMa : Hid (a.size ≤ 20000000) := by show _ ≤ _; omega
  have HMb : Hid (b.size ≤ 20000000) := by show _ ≤ _; omega
  have HMc : Hid ((a ++ b).size ≤ 20000000) := by show _ ≤ _; rw [ByteArray.size_append]; omega
  obtain ⟨p, Pa⟩ : ∃ p, Hid ((G.chars a.data.toList).isSome = p) := ⟨_, rfl⟩
  obtain ⟨q, Pb⟩ : ∃ q, Hid ((G.chars b.data.toList).isSome = q) := ⟨_, rfl⟩
  obtain ⟨x, ex, HX⟩ := given false a p Pa.out
  obtain ⟨y, ey, HY⟩ := given false b q Pb.out
  obtain ⟨v, ev, HV⟩ := given true a p Pa.out
  obtain ⟨u, eu, HU⟩ := given true b q Pb.out
  by_cases no : p = false ∨ q = false
  · clear ex ey ev eu Pa Pb
    rcases no with rfl | rfl
    · go_enter Tryd.func6, Tryd.ntmps6
      go_wp2_with fail
      refine (text_any _ x _ _ Ht.out HMa.out HX).mono ?_
      rintro e w1 ⟨rfl, hb1⟩
      go_wp2_with fail
      refine (text_any _ y _ _ (Ht.out.below hb1) HMb.out HY).mono ?_
      rintro e w2 ⟨rfl, hb2⟩
      have hb3 : Below w.heap.size w w2 := hb1.trans (hb2.mono hb1.size)
      clear hb1 hb2
      go_wp2_with fail
      refine (value_any _ v _ _ (Ht.out.below hb3) HMa.out HV).mono ?_
      rintro e w3 ⟨rfl, hb4⟩
      have hb5 : Below w.heap.size w w3 := hb3.trans (hb4.mono hb3.size)
      clear hb3 hb4
      go_wp2_with fail
      refine (value_any _ u _ _ (Ht.out.below hb5) HMb.out HU).mono ?_
      rintro e w4 ⟨rfl, hb6⟩
      have hb7 : Below w.heap.size w w4 := hb5.trans (hb6.mono hb5.size)
      clear hb5 hb6
      go_wp2_with fail
      refine (alive2_any _ (Ht.out.below hb7)).mono ?_
      rintro e w5 ⟨rfl, hb8⟩
      go_wp2
      go_ret
      exact ⟨rfl, hb7.trans (hb8.mono hb7.size)⟩
    · cases p
      all_goals
        go_enter Tryd.func6, Tryd.ntmps6
        go_wp2_with fail
        refine (text_any _ x _ _ Ht.out HMa.out HX).mono ?_
        rintro e w1 ⟨rfl, hb1⟩
        go_wp2_with fail
        refine (text_any _ y _ _ (Ht.out.below hb1) HMb.out HY).mono ?_
        rintro e w2 ⟨rfl, hb2⟩
        have hb3 : Below w.heap.size w w2 := hb1.trans (hb2.mono hb1.size)
        clear hb1 hb2
        go_wp2_with fail
        refine (value_any _ v _ _ (Ht.out.below hb3) HMa.out HV).mono ?_
        rintro e w3 ⟨rfl, hb4⟩
        have hb5 : Below w.heap.size w w3 := hb3.trans (hb4.mono hb3.size)
        clear hb3 hb4
        go_wp2_with fail
        refine (value_any _ u _ _ (Ht.out.below hb5) HMb.out HU).mono ?_
        rintro e w4 ⟨rfl, hb6⟩
        have hb7 : Below w.heap.size w w4 := hb5.trans (hb6.mono hb5.size)
        clear hb5 hb6
        go_wp2_with fail
        refine (alive2_any _ (Ht.out.below hb7)).mono ?_
        rintro e w5 ⟨rfl, hb8⟩
        go_wp2
        go_ret
        exact ⟨rfl, hb7.trans (hb8.mono hb7.size)⟩
  · have pt : p = true := by cases p <;> simp_all
    have qt : q = true := by cases q <;> simp_all
    subst pt
    subst qt
    obtain ⟨cs, ca⟩ := Option.isSome_iff_exists.1 Pa.out
    obtain ⟨ds, cb⟩ := Option.isSome_iff_exists.1 Pb.out
    · have sx : E.escL false a.data.toList = some x.data.toList := by rw [ex]; simp [E.escL, ca]
      have sy : E.escL false b.data.toList = some y.data.toList := by rw [ey]; simp [E.escL, cb]
      have sv : E.escL true a.data.toList = some v.data.toList := by rw [ev]; simp [E.escL, ca]
      have su : E.escL true b.data.toList = some u.data.toList := by rw [eu]; simp [E.escL, cb]
      have xs : x.size ≤ 6 * a.size := by simpa using E.escL_len false _ _ sx
      have ys : y.size ≤ 6 * b.size := by simpa using E.escL_len false _ _ sy
      have vs : v.size ≤ 6 * a.size := by simpa using E.escL_len true _ _ sv
      have us : u.size ≤ 6 * b.size := by simpa using E.escL_len true _ _ su
      have J1 : Hid ((E.escL false (a ++ b).data.toList).getD [] = (x ++ y).data.toList ∧ (E.escL false (a ++ b).data.toList).isSome = true) := by
        show _ ∧ _
        rw [show (a ++ b).data.toList = a.data.toList ++ b.data.toList by simp, E.joins false _ _ _ _ sx sy]
        simp
      have J2 : Hid ((E.escL true (a ++ b).data.toList).getD [] = (v ++ u).data.toList ∧ (E.escL true (a ++ b).data.toList).isSome = true) := by
        show _ ∧ _
        rw [show (a ++ b).data.toList = a.data.toList ++ b.data.toList by simp, E.joins true _ _ _ _ sv su]
        simp
      clear ex ey ev eu no Pa Pb ca cb sx sy sv su
      go_enter Tryd.func6, Tryd.ntmps6
      go_wp2_with fail
      refine (text_any _ x true _ Ht.out HMa.out HX).mono ?_
      rintro e w1 ⟨rfl, hb1⟩
      go_wp2_with fail
      refine (text_any _ y true _ (Ht.out.below hb1) HMb.out HY).mono ?_
      rintro e w2 ⟨rfl, hb2⟩
      have hb3 : Below w.heap.size w w2 := hb1.trans (hb2.mono hb1.size)
      clear hb1 hb2
      go_wp2_with fail
      refine (value_any _ v true _ (Ht.out.below hb3) HMa.out HV).mono ?_
      rintro e w3 ⟨rfl, hb4⟩
      have hb5 : Below w.heap.size w w3 := hb3.trans (hb4.mono hb3.size)
      clear hb3 hb4
      go_wp2_with fail
      refine (value_any _ u true _ (Ht.out.below hb5) HMb.out HU).mono ?_
      rintro e w4 ⟨rfl, hb6⟩
      have hb7 : Below w.heap.size w w4 := hb5.trans (hb6.mono hb5.size)
      clear hb5 hb6
      go_wp2_with fail
      refine (text_any _ (x ++ y) true _ (Ht.out.below hb7) HMc.out J1).mono ?_
      rintro e w5 ⟨rfl, hb8⟩
      have hb9 : Below w.heap.size w w5 := hb7.trans (hb8.mono hb7.size)
      clear hb7 hb8
      go_wp2_with fail
      refine (value_any _ (v ++ u) true _ (Ht.out.below hb9) HMc.out J2).mono ?_
      rintro e w6 ⟨rfl, hb10⟩
      have hb11 : Below w.heap.size w w6 := hb9.trans (hb10.mono hb9.size)
      clear hb9 hb10
      go_wp2_with fail
      refine (alive2_any _ (Ht.out.below hb11)).mono ?_
      rintro e w7 ⟨rfl, hb12⟩
      go_wp2
      go_ret
      exact ⟨rfl, hb11.trans (hb12.mono hb11.size)⟩
theorem contract (H : Type) (enc : TypeId × Value → H) (W : World) (base : Nat) (args : Array Value) (ds gs : List (DataW H)) (before : List MemPlace)
    (hval : ∀ (j : Nat) t v, Tryd.f6.params[j]? = some t → args[j]? = some v → Value.okWide Tryd.prog W .any base t v)
    (hW : DataW.Whole enc Tryd.prog Tryd.f6.params.toList Rows.escapeJoinsSpec.vars false W args.toList ds gs before) (hL : laidMetH Tryd.prog laidT W)
    (hk : Rows.uptoSmall H (ds ++ gs) = true) :
    Calls Tryd.prog 6 args W fun e W' => ∃ v, e = .returned v ∧ Rows.escapeJoinsSpec.post enc Tryd.prog Tryd.f6 false true false false W args v W' := by
  have hW' := hW
  obtain ⟨p, q, hA0, hV, rfl, hfz, hnd⟩ := hW
  have hA : DataW.TrodAll enc Tryd.prog W 0 (fun _ => true) true Tryd.f6.params.toList args.toList ds p := hA0
  rw [Tryd.params6] at hA hval
  obtain ⟨v0, vs0, d0, ds0, p0, q0, hargs, rfl, rfl, h0, r0⟩ := trodAll_cons hA
  obtain ⟨v1, vs1, d1, ds1, p1, q1, rfl, rfl, rfl, h1, r1⟩ := trodAll_cons r0
  obtain ⟨rfl, rfl, rfl⟩ := trodAll_nil r1
  obtain rfl : args = #[v0, v1] := by cases args; simp_all
  obtain ⟨rfl, rfl⟩ := trodVars_none hV
  obtain ⟨a0, rfl, rfl, rfl, w0⟩ := open_string Tryd.underlying9 (hval 0 9 v0 rfl rfl) h0
  obtain ⟨a1, rfl, rfl, rfl, w1⟩ := open_string Tryd.underlying9 (hval 1 9 v1 rfl rfl) h1
  have hk1 : Rows.uptoBulkAll _ ≤ 1048576 := of_decide_eq_true hk
  simp only [List.append_nil, Rows.uptoBulkAll, Rows.uptoBulk, Array.length_toList, ByteArray.size_data] at hk1
  have z0 : a0.size ≤ 1048576 := by omega
  have z1 : a1.size ≤ 1048576 := by omega
  have hT := tab_of hL
  clear hA0 hL hk hk1
  simp only [List.append_nil] at hW'
  refine (walk a0 a1 z0 z1 W hT).mono fun e W' ⟨he, hb⟩ => ?_
  subst he
  exact ⟨_, rfl, _, _, _, [], [], [], hW', trodAll_mk1 (shut_bool Tryd.underlying4 _), (trodAll_cons_mk (shut_string Tryd.underlying9 w0) (trodAll_cons_mk (shut_string Tryd.underlying9 w1) trodAll_mk0)), rfl, hb.frame _, fun h => by cases h⟩

theorem reads (os : Os) {H : Type} (enc : TypeId × Value → H) : ∃ places, DataW.whole enc Tryd.prog ((World.doorLaid Tryd.prog 400 os).forCall (fun _ _ => 0) ⟨#[], #[.string ⟨#[]⟩, .string ⟨#[]⟩], []⟩).memory Tryd.f6.params.toList Rows.escapeJoinsSpec.vars false #[Value.string ⟨#[]⟩, Value.string ⟨#[]⟩].toList 8 = some ([.lit (.string []), .lit (.string [])], [], places) :=
  ⟨[], by kernel_rfl⟩
theorem laid_met (os : Os) (args : Array Value) : laidMet Tryd.prog Rows.escapeJoinsUptoRow.laid ((World.doorLaid Tryd.prog 400 os).forCall (fun _ _ => 0) ⟨#[], args, []⟩).memory :=
  laidMet_of_run' 8 (by kernel_rfl) (by kernel_rfl)

set_option maxRecDepth 100000 in
theorem lifted (os : Os) (started : os.Started) (H : Type) (enc : TypeId × Value → H) (F : Stop.Interp) :
    ReturnsInHanded {} Tryd.checked os 6 .any ((Rows.OpenSpec.upto Rows.escapeJoinsSpec).preRow enc Tryd.prog Tryd.f6 Rows.escapeJoinsUptoRow.domain false Rows.escapeJoinsUptoRow.laid) (((Rows.OpenSpec.upto Rows.escapeJoinsSpec).at F).post enc Tryd.prog Tryd.f6 false true false false) := by
  obtain ⟨places, hx⟩ := reads os enc
  refine returnsInHanded_of_row (C := Tryd.checked) (s := (Rows.OpenSpec.upto Rows.escapeJoinsSpec)) own started (by kernel_rfl) Tryd.func6
    (witness_row_at (enc := enc) (C := Tryd.checked) false (World.doorLaid Tryd.prog 400 os) #[.string ⟨#[]⟩, .string ⟨#[]⟩] rfl (by kernel_rfl) (by kernel_rfl) (by kernel_rfl)
      (OpenSpec.preRow_of_cond 8 hx (by kernel_rfl) (fun k hk => by cases hk; kernel_rfl) (by kernel_rfl) (laid_met os _))) ?_
  intro W base args ds gs before hval hW _ hcond hsz hL _ _
  exact contract H enc W base args ds gs before hval hW hL (hcond _ rfl)

theorem over : Rows.EscapeJoinsUptoSaid :=
  OpenClaim.holds_of_cond 6 Tryd.f6 rfl rfl rfl rfl rfl rfl rfl ⟨rfl, rfl, rfl, rfl, rfl⟩ rfl rfl rfl rfl rfl (by kernel_rfl) Tryd.func6 (by kernel_rfl)
    (of_decide_eq_true (by kernel_rfl)) (by unfold Func.isWrapper; first | (rw [if_pos (by decide +kernel)]; kernel_rfl) | (rw [if_neg (by decide +kernel)]; exact ⟨rfl, rfl⟩))
    (fun os started H enc _ F => by rw [OpenClaim.pre_eq_preRow]; exact lifted os started H enc F)
theorem plain (f : FuncId) (fn : Func) (hf : Tryd.pinned.checked.prog.funcNamed Rows.escapeJoinsUptoRow.func = some f) (hfn : Tryd.pinned.checked.prog.funcs[f]? = some fn) :
    false = Tryd.pinned.checked.prog.looks [] ∧ ∀ (j : Nat) t, fn.params[j]? = some t → Tryd.pinned.checked.prog.wantsStandIn t = false := by
  obtain rfl : f = 6 := Option.some.inj ((show Tryd.prog.funcNamed Rows.escapeJoinsUptoRow.func = some 6 by kernel_rfl).symm.trans hf) |>.symm
  obtain rfl : fn = Tryd.f6 := (Option.some.inj (Tryd.func6.symm.trans hfn)).symm
  refine ⟨by kernel_rfl, fun j t ht => ?_⟩
  rw [Tryd.params6] at ht
  have hm : t ∈ [9, 9] := by simpa using Array.mem_of_getElem? ht
  have hall : ([9, 9].all fun u => !Tryd.prog.wantsStandIn u) = true := by kernel_rfl
  exact (show Tryd.prog.wantsStandIn t = false by simpa using List.all_eq_true.1 hall t hm)
end EscapeJoins

theorem escapeJoinsUpto_holds : Rows.EscapeJoinsUptoCardSaid :=
  Claim7.holds_tied_plain_at .later [] _ _ _ _ EscapeJoins.over (fun _ h => by cases h) (by kernel_rfl) (fun _ h => by cases h) escapeJoinsUpto_row_tie rfl ⟨rfl, rfl⟩ (by kernel_rfl) rfl EscapeJoins.plain (by kernel_rfl)
#print axioms escapeJoinsUpto_holds
end Go.Proofs.YtpkcgahgjdghaaaDoor
