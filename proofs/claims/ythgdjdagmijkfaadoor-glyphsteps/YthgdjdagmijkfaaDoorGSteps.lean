/- PROVED: of any text, GlyphSteps returns true: its characters are as many as there are steps through it, each of as many bytes as its character has; the text reads afterwards as it read before. Its condition: the table of ranges reads when the call begins as the program's own text lays it (the card ties that). -/
import Derived.Test.YthgdjdagmijkfaaDoorGAlive
import Derived.Test.YthgdjdagmijkfaaDoorGRNext
import Derived.Test.YthgdjdagmijkfaaDoorGLaid
import Derived.Test.YthgdjdagmijkfaaDoorTie
import Derived.Test.YthgdjdagmijkfaaDoorCards
import Derived.SevenTiedAt
import Derived.Deep.DeepHandedRow
namespace Go.Proofs.YthgdjdagmijkfaaDoor
open Go.ChangeShapes Go.WideShapes Go.ChangeAt Go.RowKit
open Go.ChangeMaps (open_string shut_string)
namespace GlyphSteps

set_option maxRecDepth 100000 in
set_option maxHeartbeats 400000 in
theorem walk (s : ByteArray) (z0 : s.size ≤ 140737488351232) (w : World) (ht : Tab w) :
    Calls Tryd.prog 9 #[.string s] w fun e w' => e = .returned (.bool true) ∧ Below w.heap.size w w' := by
  have Ht : Hid (Tab w) := ht
  clear ht
  have HM : Hid (s.size ≤ maxLen) := by show _ ≤ _; unfold maxLen; omega
  by_cases big : 20000 < s.size
  · go_enter Tryd.func9, Tryd.ntmps9
    go_wp2_with fail
    refine (alive_any _ Ht.out).mono ?_
    rintro e w1 ⟨rfl, hb1⟩
    go_wp2
    go_ret
    exact ⟨rfl, hb1⟩
  · go_enter Tryd.func9, Tryd.ntmps9
    go_wp2_with fail
    go_loopw [4, 3] (fun v i W => ∃ (r : ByteArray) (k : Nat) (pre : List Int), v = .string r ∧ i = .int .i64 k ∧ k + r.size ≤ s.size ∧ Hid (pre.length = k ∧ G.chars s.data.toList = (G.chars r.data.toList).map (pre ++ ·)) ∧ Below w.heap.size w W) (fun v _ _ => match v with | .string r => r.size | _ => 0)
    case atStart => exact ⟨s, 0, [], rfl, rfl, by omega, ⟨rfl, by simp⟩, Below.refl _ _⟩
    case round =>
      obtain ⟨r, k, pre, rfl, rfl, hk, HR, hb⟩ := hrel
      by_cases h : 0 < r.size
      · have hne : r.toList.isEmpty = false := ne_of_pos r h
        have HL : Hid (r.data.toList ≠ []) := list_of_pos r h
        obtain ⟨⟨c, n⟩, HN⟩ : ∃ p, Hid (G.nextL r.data.toList = p) := ⟨_, rfl⟩
        have hn : n ≤ r.size := by have := G.next_le r.data.toList; rw [HN.out] at this; simpa using this
        by_cases n0 : n = 0
        · subst n0
          have HC : Hid (G.countZ s.data.toList = -1) := by
            show _ = _
            unfold G.countZ
            rw [HR.out.2, G.chars_none _ HL.out (by rw [HN.out])]
            rfl
          have hc : c = -1 := by
            have q := G.next_zero _ HL.out (by rw [HN.out])
            rw [HN.out] at q
            exact q
          subst hc
          go_wp2_with fail
          refine (next_any _ (-1) 0 _ (Ht.out.below hb) (by have := HM.out; omega) HN).mono ?_
          rintro e w1 ⟨rfl, hb1⟩
          have hb2 : Below w.heap.size w w1 := hb.trans (hb1.mono hb.size)
          clear hb hb1
          go_wp2_with fail
          refine (alive_any _ (Ht.out.below hb2)).mono ?_
          rintro e w2 ⟨rfl, hb3⟩
          have hb4 : Below w.heap.size w w2 := hb2.trans (hb3.mono hb2.size)
          clear hb2 hb3
          go_wp2_with fail
          refine (count_any _ (-1) _ (Ht.out.below hb4) HM.out HC).mono ?_
          rintro e w3 ⟨rfl, hb5⟩
          have hb6 : Below w.heap.size w w3 := hb4.trans (hb5.mono hb4.size)
          clear hb4 hb5
          go_wp2
          go_ret
          exact ⟨rfl, hb6⟩
        · have b0 : ((n : Int) == 0) = false := by simp; exact n0
          obtain ⟨cb, pl⟩ := G.next_putL r.data.toList c n HN.out n0
          have CB : Hid (G.charB c = true) := cb
          have se : strOfNums (G.putN c) = r.extract 0 n := WideShapes.bytes_inj (by rw [str_putL, take_eq]; exact pl)
          have SE : Hid (strOfNums (G.putN c) = r.extract 0 n) := se
          clear cb pl se
          have es : (r.extract 0 n).size = n := by rw [ByteArray.size_extract]; omega
          go_wp2_with fail
          refine (next_any _ c n _ (Ht.out.below hb) (by have := HM.out; omega) HN).mono ?_
          rintro e w1 ⟨rfl, hb1⟩
          have hb2 : Below w.heap.size w w1 := hb.trans (hb1.mono hb.size)
          clear hb hb1
          go_wp2_with fail
          refine (put_yes _ _ (Ht.out.below hb2) CB.out).mono ?_
          rintro e w2 ⟨rfl, hb3⟩
          have hb4 : Below w.heap.size w w2 := hb2.trans (hb3.mono hb2.size)
          clear hb2 hb3
          rw [SE.out]
          go_wp2
          go_roundw
          case rel =>
            refine ⟨r.extract n r.size, k + 1, pre ++ [c], rfl, by go_num, by rw [size_drop]; omega, ⟨by simp [HR.out.1], ?_⟩, hb4⟩
            rw [HR.out.2, G.chars_cons _ HL.out (by rw [HN.out]; exact n0), HN.out, drop_eq]
            cases G.chars (r.data.toList.drop n) <;> simp
          case measure => simp; omega
      · have hz : r.size = 0 := by omega
        have hne : r.toList.isEmpty = true := emp_of r h
        have HC : Hid (G.countZ s.data.toList = (k : Int)) := by
          show _ = _
          unfold G.countZ
          rw [HR.out.2, nil_of r h, G.chars_nil]
          simp [HR.out.1]
        go_wp2_with fail
        refine (alive_any _ (Ht.out.below hb)).mono ?_
        rintro e w2 ⟨rfl, hb3⟩
        have hb4 : Below w.heap.size w w2 := hb.trans (hb3.mono hb.size)
        clear hb hb3
        go_wp2_with fail
        refine (count_any _ (k : Int) _ (Ht.out.below hb4) HM.out HC).mono ?_
        rintro e w3 ⟨rfl, hb5⟩
        have hb6 : Below w.heap.size w w3 := hb4.trans (hb5.mono hb4.size)
        clear hb4 hb5
        go_wp2
        go_ret
        exact ⟨rfl, hb6⟩
theorem contract (H : Type) (enc : TypeId × Value → H) (W : World) (base : Nat) (args : Array Value) (ds gs : List (DataW H)) (before : List MemPlace)
    (hval : ∀ (j : Nat) t v, Tryd.f9.params[j]? = some t → args[j]? = some v → Value.okWide Tryd.prog W .any base t v)
    (hW : DataW.Whole enc Tryd.prog Tryd.f9.params.toList Rows.glyphStepsSpec.vars false W args.toList ds gs before) (hL : laidMetH Tryd.prog laidT W)
    (hsz : (DataW.weightsEach Tryd.prog (Tryd.f9.params.toList ++ (OpenSpec.ofChange Rows.glyphStepsSpec).bare.plain.varTypes Tryd.prog) (ds ++ gs)).all (· ≤ reachBytes) = true) :
    Calls Tryd.prog 9 args W fun e W' => ∃ v, e = .returned v ∧ Rows.glyphStepsSpec.post enc Tryd.prog Tryd.f9 false true false false W args v W' := by
  have hW' := hW
  obtain ⟨p, q, hA0, hV, rfl, hfz, hnd⟩ := hW
  have hA : DataW.TrodAll enc Tryd.prog W 0 (fun _ => true) true Tryd.f9.params.toList args.toList ds p := hA0
  rw [Tryd.params9] at hA hval
  rw [Tryd.params9] at hsz
  obtain ⟨v0, vs0, d0, ds0, p0, q0, hargs, rfl, rfl, h0, r0⟩ := trodAll_cons hA
  obtain ⟨rfl, rfl, rfl⟩ := trodAll_nil r0
  obtain rfl : args = #[v0] := by cases args; simp_all
  obtain ⟨rfl, rfl⟩ := trodVars_none hV
  obtain ⟨a0, rfl, rfl, rfl, w0⟩ := open_string Tryd.underlying9 (hval 0 9 v0 rfl rfl) h0
  have z0 : a0.size ≤ 140737488351232 := by simpa [reachBytes] using sized_string hsz (j := 0) (t := 9) rfl rfl
  have hT := tab_of hL
  clear hA0 hL hsz
  simp only [List.append_nil] at hW'
  refine (walk a0 z0 W hT).mono fun e W' ⟨he, hb⟩ => ?_
  subst he
  exact ⟨_, rfl, _, _, _, [], [], [], hW', trodAll_mk1 (shut_bool Tryd.underlying4 _), (trodAll_cons_mk (shut_string Tryd.underlying9 w0) trodAll_mk0), rfl, hb.frame _, fun h => by cases h⟩

theorem reads (os : Os) {H : Type} (enc : TypeId × Value → H) : ∃ places, DataW.whole enc Tryd.prog ((World.doorLaid Tryd.prog 400 os).forCall (fun _ _ => 0) ⟨#[], #[.string ⟨#[]⟩], []⟩).memory Tryd.f9.params.toList Rows.glyphStepsSpec.vars false #[Value.string ⟨#[]⟩].toList 8 = some ([.lit (.string [])], [], places) :=
  ⟨[], by kernel_rfl⟩
theorem laid_met (os : Os) (args : Array Value) : laidMet Tryd.prog Rows.glyphStepsRow.laid ((World.doorLaid Tryd.prog 400 os).forCall (fun _ _ => 0) ⟨#[], args, []⟩).memory :=
  laidMet_of_run' 8 (by kernel_rfl) (by kernel_rfl)

set_option maxRecDepth 100000 in
theorem lifted (os : Os) (started : os.Started) (H : Type) (enc : TypeId × Value → H) (F : Stop.Interp) :
    ReturnsInHanded {} Tryd.checked os 9 .any ((OpenSpec.ofChange Rows.glyphStepsSpec).preRow enc Tryd.prog Tryd.f9 Rows.glyphStepsRow.domain false Rows.glyphStepsRow.laid) (((OpenSpec.ofChange Rows.glyphStepsSpec).at F).post enc Tryd.prog Tryd.f9 false true false false) := by
  obtain ⟨places, hx⟩ := reads os enc
  refine returnsInHanded_of_row (C := Tryd.checked) (s := (OpenSpec.ofChange Rows.glyphStepsSpec)) own started (by kernel_rfl) Tryd.func9
    (witness_row_at (enc := enc) (C := Tryd.checked) false (World.doorLaid Tryd.prog 400 os) #[.string ⟨#[]⟩] rfl (by kernel_rfl) (by kernel_rfl) (by kernel_rfl)
      (OpenSpec.preRow_of_cond 8 hx (by kernel_rfl) (fun k hk => by cases hk) (by kernel_rfl) (laid_met os _))) ?_
  intro W base args ds gs before hval hW _ hcond hsz hL _ _
  exact contract H enc W base args ds gs before hval hW hL hsz

theorem over : Rows.GlyphStepsSaid :=
  OpenClaim.holds_of_cond 9 Tryd.f9 rfl rfl rfl rfl rfl rfl rfl ⟨rfl, rfl, rfl, rfl, rfl⟩ rfl rfl rfl rfl rfl (by kernel_rfl) Tryd.func9 (by kernel_rfl)
    (of_decide_eq_true (by kernel_rfl)) (by unfold Func.isWrapper; first | (rw [if_pos (by decide +kernel)]; kernel_rfl) | (rw [if_neg (by decide +kernel)]; exact ⟨rfl, rfl⟩))
    (fun os started H enc _ F => by rw [OpenClaim.pre_eq_preRow]; exact lifted os started H enc F)
theorem plain (f : FuncId) (fn : Func) (hf : Tryd.pinned.checked.prog.funcNamed Rows.glyphStepsRow.func = some f) (hfn : Tryd.pinned.checked.prog.funcs[f]? = some fn) :
    false = Tryd.pinned.checked.prog.looks [] ∧ ∀ (j : Nat) t, fn.params[j]? = some t → Tryd.pinned.checked.prog.wantsStandIn t = false := by
  obtain rfl : f = 9 := Option.some.inj ((show Tryd.prog.funcNamed Rows.glyphStepsRow.func = some 9 by kernel_rfl).symm.trans hf) |>.symm
  obtain rfl : fn = Tryd.f9 := (Option.some.inj (Tryd.func9.symm.trans hfn)).symm
  refine ⟨by kernel_rfl, fun j t ht => ?_⟩
  rw [Tryd.params9] at ht
  have hm : t ∈ [9] := by simpa using Array.mem_of_getElem? ht
  have hall : ([9].all fun u => !Tryd.prog.wantsStandIn u) = true := by kernel_rfl
  exact (show Tryd.prog.wantsStandIn t = false by simpa using List.all_eq_true.1 hall t hm)
end GlyphSteps

theorem glyphSteps_holds : Rows.GlyphStepsCardSaid :=
  Claim7.holds_tied_plain_at .later [] _ _ _ _ GlyphSteps.over (fun _ h => by cases h) (by kernel_rfl) (fun _ h => by cases h) glyphSteps_row_tie rfl ⟨rfl, rfl⟩ (by kernel_rfl) rfl GlyphSteps.plain (by kernel_rfl)
#print axioms glyphSteps_holds
end Go.Proofs.YthgdjdagmijkfaaDoor
