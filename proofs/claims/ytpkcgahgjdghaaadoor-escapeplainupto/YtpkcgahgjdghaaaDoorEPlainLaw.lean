/- PROVED: of any text, EscapePlain returns true: what was escaped as a value has none of the characters that mean something but as references do; the text reads afterwards as it read before. Its conditions: the text holds at most 1048576 values and letters, and the table of ranges reads when the call begins as the program's own text lays it (the card ties that). -/
import Derived.Test.YtpkcgahgjdghaaaDoorEAlive
import Derived.Test.YtpkcgahgjdghaaaDoorEBack
import Derived.Test.YtpkcgahgjdghaaaDoorGLaid
import Derived.Test.YtpkcgahgjdghaaaDoorTie
import Derived.Test.YtpkcgahgjdghaaaDoorCards
import Derived.SevenTiedAt
import Derived.Deep.DeepHandedRow
namespace Go.Proofs.YtpkcgahgjdghaaaDoor
open Go.ChangeShapes Go.WideShapes Go.ChangeAt Go.RowKit
open Go.ChangeMaps (open_string shut_string)
namespace EscapePlain

theorem plain_ne {b : UInt8} (h : E.plainB b = true) : ∀ k ∈ [60, 62, 34, 9, 10, 13], ((b.toNat : Int) == k) = false := by
  intro k hk
  unfold E.plainB at h
  simp only [Bool.and_eq_true, bne_iff_ne, ne_eq] at h
  obtain ⟨⟨⟨⟨⟨h1, h2⟩, h3⟩, h4⟩, h5⟩, h6⟩ := h
  have key : ∀ n : Nat, n < 256 → b ≠ UInt8.ofNat n → ((b.toNat : Int) == (n : Int)) = false := by
    intro n hn q
    rw [beq_eq_false_iff_ne]
    intro z
    apply q
    have z2 : b.toNat = n := by omega
    rw [← z2]; simp
  simp at hk
  rcases hk with rfl | rfl | rfl | rfl | rfl | rfl
  · exact key 60 (by decide) h1
  · exact key 62 (by decide) h2
  · exact key 34 (by decide) h3
  · exact key 9 (by decide) h4
  · exact key 10 (by decide) h5
  · exact key 13 (by decide) h6

set_option maxRecDepth 100000 in
set_option maxHeartbeats 400000 in
theorem walk (s : ByteArray) (z0 : s.size ≤ 1048576) (w : World) (ht : Tab w) :
    Calls Tryd.prog 7 #[.string s] w fun e w' => e = .returned (.bool true) ∧ Below w.heap.size w w' := by
  have Ht : Hid (Tab w) := ht
  clear ht
  have HM : Hid (s.size ≤ 20000000) := by show _ ≤ _; omega
  obtain ⟨o, HO⟩ : ∃ o, Hid (E.escL true s.data.toList = o) := ⟨_, rfl⟩
  cases o with
  | none =>
    go_enter Tryd.func7, Tryd.ntmps7
    go_wp2_with fail
    refine (value_any _ ⟨#[]⟩ false _ Ht.out HM.out (by rw [HO.out]; exact ⟨rfl, rfl⟩)).mono ?_
    rintro e w1 ⟨rfl, hb1⟩
    go_wp2_with fail
    refine (alive2_any _ (Ht.out.below hb1)).mono ?_
    rintro e w2 ⟨rfl, hb2⟩
    go_wp2
    go_ret
    exact ⟨rfl, hb1.trans (hb2.mono hb1.size)⟩
  | some m =>
    obtain ⟨a, HA⟩ : ∃ a : ByteArray, Hid (m = a.data.toList) := ⟨⟨m.toArray⟩, by show _ = _; simp⟩
    have al : a.size ≤ 6 * s.size := by
      have := E.escL_len true _ m HO.out
      rw [HA.out] at this
      simpa using this
    go_enter Tryd.func7, Tryd.ntmps7
    go_wp2_with fail
    refine (value_any _ a true _ Ht.out HM.out (by rw [HO.out]; exact ⟨HA.out, rfl⟩)).mono ?_
    rintro e w1 ⟨rfl, hb1⟩
    go_wp2_with fail
    have HP : Hid (∀ k, (h : k < a.size) → E.plainB a[k] = true) := by
      intro k h
      refine E.escL_plain _ m HO.out _ ?_
      rw [HA.out]
      exact Array.mem_toList_iff.2 (Array.getElem_mem h)
    go_loop [20] (fun i => ∃ k : Nat, k ≤ a.size ∧ i = .int .i64 k) (fun i => a.size - (intOf i).toNat)
    case atStart => exact ⟨0, by omega, rfl⟩
    case round =>
      obtain ⟨k, hk, rfl⟩ := hrel
      by_cases klt : k < a.size
      · have pn := plain_ne (HP.out k klt)
        have c1 := pn 60 (by simp)
        have c2 := pn 62 (by simp)
        have c3 := pn 34 (by simp)
        have c4 := pn 9 (by simp)
        have c5 := pn 10 (by simp)
        have c6 := pn 13 (by simp)
        clear pn
        go_wp2
        go_round
        case rel => exact ⟨k + 1, by omega, by go_num⟩
        case measure => simp [intOf]; omega
      · go_wp2_with fail
        refine (alive2_any _ (Ht.out.below hb1)).mono ?_
        rintro e w2 ⟨rfl, hb2⟩
        go_wp2
        go_ret
        exact ⟨rfl, hb1.trans (hb2.mono hb1.size)⟩
theorem contract (H : Type) (enc : TypeId × Value → H) (W : World) (base : Nat) (args : Array Value) (ds gs : List (DataW H)) (before : List MemPlace)
    (hval : ∀ (j : Nat) t v, Tryd.f7.params[j]? = some t → args[j]? = some v → Value.okWide Tryd.prog W .any base t v)
    (hW : DataW.Whole enc Tryd.prog Tryd.f7.params.toList Rows.escapePlainSpec.vars false W args.toList ds gs before) (hL : laidMetH Tryd.prog laidT W)
    (hk : Rows.uptoSmall H (ds ++ gs) = true) :
    Calls Tryd.prog 7 args W fun e W' => ∃ v, e = .returned v ∧ Rows.escapePlainSpec.post enc Tryd.prog Tryd.f7 false true false false W args v W' := by
  have hW' := hW
  obtain ⟨p, q, hA0, hV, rfl, hfz, hnd⟩ := hW
  have hA : DataW.TrodAll enc Tryd.prog W 0 (fun _ => true) true Tryd.f7.params.toList args.toList ds p := hA0
  rw [Tryd.params7] at hA hval
  obtain ⟨v0, vs0, d0, ds0, p0, q0, hargs, rfl, rfl, h0, r0⟩ := trodAll_cons hA
  obtain ⟨rfl, rfl, rfl⟩ := trodAll_nil r0
  obtain rfl : args = #[v0] := by cases args; simp_all
  obtain ⟨rfl, rfl⟩ := trodVars_none hV
  obtain ⟨a0, rfl, rfl, rfl, w0⟩ := open_string Tryd.underlying9 (hval 0 9 v0 rfl rfl) h0
  have hk1 : Rows.uptoBulkAll _ ≤ 1048576 := of_decide_eq_true hk
  simp only [List.append_nil, Rows.uptoBulkAll, Rows.uptoBulk, Array.length_toList, ByteArray.size_data] at hk1
  have z0 : a0.size ≤ 1048576 := by omega
  have hT := tab_of hL
  clear hA0 hL hk hk1
  simp only [List.append_nil] at hW'
  refine (walk a0 z0 W hT).mono fun e W' ⟨he, hb⟩ => ?_
  subst he
  exact ⟨_, rfl, _, _, _, [], [], [], hW', trodAll_mk1 (shut_bool Tryd.underlying4 _), (trodAll_cons_mk (shut_string Tryd.underlying9 w0) trodAll_mk0), rfl, hb.frame _, fun h => by cases h⟩

theorem reads (os : Os) {H : Type} (enc : TypeId × Value → H) : ∃ places, DataW.whole enc Tryd.prog ((World.doorLaid Tryd.prog 400 os).forCall (fun _ _ => 0) ⟨#[], #[.string ⟨#[]⟩], []⟩).memory Tryd.f7.params.toList Rows.escapePlainSpec.vars false #[Value.string ⟨#[]⟩].toList 8 = some ([.lit (.string [])], [], places) :=
  ⟨[], by kernel_rfl⟩
theorem laid_met (os : Os) (args : Array Value) : laidMet Tryd.prog Rows.escapePlainUptoRow.laid ((World.doorLaid Tryd.prog 400 os).forCall (fun _ _ => 0) ⟨#[], args, []⟩).memory :=
  laidMet_of_run' 8 (by kernel_rfl) (by kernel_rfl)

set_option maxRecDepth 100000 in
theorem lifted (os : Os) (started : os.Started) (H : Type) (enc : TypeId × Value → H) (F : Stop.Interp) :
    ReturnsInHanded {} Tryd.checked os 7 .any ((Rows.OpenSpec.upto Rows.escapePlainSpec).preRow enc Tryd.prog Tryd.f7 Rows.escapePlainUptoRow.domain false Rows.escapePlainUptoRow.laid) (((Rows.OpenSpec.upto Rows.escapePlainSpec).at F).post enc Tryd.prog Tryd.f7 false true false false) := by
  obtain ⟨places, hx⟩ := reads os enc
  refine returnsInHanded_of_row (C := Tryd.checked) (s := (Rows.OpenSpec.upto Rows.escapePlainSpec)) own started (by kernel_rfl) Tryd.func7
    (witness_row_at (enc := enc) (C := Tryd.checked) false (World.doorLaid Tryd.prog 400 os) #[.string ⟨#[]⟩] rfl (by kernel_rfl) (by kernel_rfl) (by kernel_rfl)
      (OpenSpec.preRow_of_cond 8 hx (by kernel_rfl) (fun k hk => by cases hk; kernel_rfl) (by kernel_rfl) (laid_met os _))) ?_
  intro W base args ds gs before hval hW _ hcond hsz hL _ _
  exact contract H enc W base args ds gs before hval hW hL (hcond _ rfl)

theorem over : Rows.EscapePlainUptoSaid :=
  OpenClaim.holds_of_cond 7 Tryd.f7 rfl rfl rfl rfl rfl rfl rfl ⟨rfl, rfl, rfl, rfl, rfl⟩ rfl rfl rfl rfl rfl (by kernel_rfl) Tryd.func7 (by kernel_rfl)
    (of_decide_eq_true (by kernel_rfl)) (by unfold Func.isWrapper; first | (rw [if_pos (by decide +kernel)]; kernel_rfl) | (rw [if_neg (by decide +kernel)]; exact ⟨rfl, rfl⟩))
    (fun os started H enc _ F => by rw [OpenClaim.pre_eq_preRow]; exact lifted os started H enc F)
theorem plain (f : FuncId) (fn : Func) (hf : Tryd.pinned.checked.prog.funcNamed Rows.escapePlainUptoRow.func = some f) (hfn : Tryd.pinned.checked.prog.funcs[f]? = some fn) :
    false = Tryd.pinned.checked.prog.looks [] ∧ ∀ (j : Nat) t, fn.params[j]? = some t → Tryd.pinned.checked.prog.wantsStandIn t = false := by
  obtain rfl : f = 7 := Option.some.inj ((show Tryd.prog.funcNamed Rows.escapePlainUptoRow.func = some 7 by kernel_rfl).symm.trans hf) |>.symm
  obtain rfl : fn = Tryd.f7 := (Option.some.inj (Tryd.func7.symm.trans hfn)).symm
  refine ⟨by kernel_rfl, fun j t ht => ?_⟩
  rw [Tryd.params7] at ht
  have hm : t ∈ [9] := by simpa using Array.mem_of_getElem? ht
  have hall : ([9].all fun u => !Tryd.prog.wantsStandIn u) = true := by kernel_rfl
  exact (show Tryd.prog.wantsStandIn t = false by simpa using List.all_eq_true.1 hall t hm)
end EscapePlain

theorem escapePlainUpto_holds : Rows.EscapePlainUptoCardSaid :=
  Claim7.holds_tied_plain_at .later [] _ _ _ _ EscapePlain.over (fun _ h => by cases h) (by kernel_rfl) (fun _ h => by cases h) escapePlainUpto_row_tie rfl ⟨rfl, rfl⟩ (by kernel_rfl) rfl EscapePlain.plain (by kernel_rfl)
#print axioms escapePlainUpto_holds
end Go.Proofs.YtpkcgahgjdghaaaDoor
