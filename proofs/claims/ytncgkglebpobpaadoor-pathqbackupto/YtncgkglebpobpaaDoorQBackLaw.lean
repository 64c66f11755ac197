/- PROVED: of any row of steps of bulk at most 1048576, PathqBack returns true: what was written is read as the same steps, if it is not too long; the steps read afterwards as they read before. Its conditions: the tables of glyph, pathq and strconv lie as the program's text lays them. -/
import Derived.Test.YtncgkglebpobpaaDoorQAlive
import Derived.Test.YtncgkglebpobpaaDoorQSame
import Derived.Test.YtncgkglebpobpaaDoorQLiftU
namespace Go.Proofs.YtncgkglebpobpaaDoor
open Go.ChangeShapes Go.WideShapes Go.ChangeAt Go.RowKit Go.Shelf
namespace PathqBack
set_option maxRecDepth 100000 in
set_option maxHeartbeats 4000000 in
theorem walk (V : Value) (l : List SV) {w : World} (HI : Hid (StepsIn V l w)) (F1 : Hid (∀ x ∈ l, FitS 1048576 x.1)) (ht : TabQ w) :
    Calls Tryd.prog 5 #[V] w fun e w' => e = .returned (.bool true) ∧ Below w.heap.size w w' := by
  have HT := hid ht
  have F2 : Hid (∀ x ∈ l, FitS maxLen x.1) := hid (fun x hx => (F1.out x hx).mono (by unfold maxLen; decide))
  obtain ⟨ao, cap, rfl, _⟩ := HI.out.1
  clear ht
  obtain ⟨r, HRB⟩ : ∃ r, Hid (Q.rightLB (l.map (·.1)) = r) := ⟨_, hid rfl⟩
  obtain ⟨t, HTX⟩ : ∃ t : ByteArray, Hid (Q.stepsW (l.map (·.1)) = t.data.toList) := ⟨⟨(Q.stepsW (l.map (·.1))).toArray⟩, hid rfl⟩
  go_enter Tryd.func5, Tryd.ntmps5
  cases r with
  | false =>
    go_wp2_with fail
    refine Calls.mono (print_any _ l w HT.out HI F1 false HRB t (hid fun _ => HTX.out)) ?_
    rintro e w2 ⟨rfl, hb2⟩
    have HT2 := hid (HT.out.below hb2)
    have HI2 := hid (HI.out.below hb2)
    have HB2 := hid hb2
    clear hb2
    go_wp2_with fail
    refine (aliveQ_any w2 HT2.out).mono ?_
    rintro e w4 ⟨rfl, hb4⟩
    have HT4 := hid (HT2.out.below hb4)
    have HI4 := hid (HI2.out.below hb4)
    have HB4 := hid (HB2.out.trans (hb4.mono HB2.out.size))
    have hnoB : L.noB.toList = [] := by rw [ByteArray.toList_eq]; rfl
    clear hb4
    go_wp2_with fail
    refine Calls.mono (right_any _ l w4 HT4.out.st HI4 F2 false HRB) ?_
    rintro e w5 ⟨rfl, hb5⟩
    have HB5 := hid (HB4.out.trans (hb5.mono HB4.out.size))
    clear hb5
    go_wp2
    go_ret
    exact ⟨rfl, HB5.out⟩
  | true =>
    obtain ⟨hr0, hr2, hr1⟩ := (Q.rightL_B _).1 HRB.out
    have hr3 : l.map (·.1) ≠ [] := by intro q; rw [q] at hr0; simp at hr0
    have ts : (Q.stepsW (l.map (·.1))).length = t.size := by rw [HTX.out]; exact len_size t
    have tb : S.bA (Q.stepsW (l.map (·.1))) = t := by rw [HTX.out]; exact S.bA_self t
    obtain ⟨res2, HR2⟩ : ∃ r, Hid (Q.parseP t = r) := ⟨_, hid rfl⟩
    have HQ : Hid (t.size ≤ 200 → res2 = .ok (l.map (·.1))) := hid (fun h => by rw [← HR2.out, ← tb]; exact Q.query_back hr1 hr3 hr2 (by omega))
    have HN : Hid (200 < t.size → res2 = .error (0, 71)) := hid (fun h => by rw [← HR2.out]; unfold Q.parseP; rw [if_pos h])
    clear hr0 hr1 hr2 hr3 ts tb
    go_wp2_with fail
    refine Calls.mono (print_any _ l w HT.out HI F1 true HRB t (hid fun _ => HTX.out)) ?_
    rintro e w2 ⟨rfl, hb2⟩
    have HT2 := hid (HT.out.below hb2)
    have HI2 := hid (HI.out.below hb2)
    have HB2 := hid hb2
    clear hb2
    go_wp2_with fail
    refine Calls.mono (qparse_any t w2 HT2.out res2 HR2) ?_
    rintro e w3 ⟨hb3, hres⟩
    have HT3 := hid (HT2.out.below hb3)
    have HI3 := hid (HI2.out.below hb3)
    have HB3 := hid (HB2.out.trans (hb3.mono HB2.out.size))
    clear hb3 HB2 HT2 HI2
    by_cases hsz : 200 < t.size
    · have hsz' : (200 : Int) < (t.size : Int) := by omega
      have hn := HN.out hsz
      rcases hres with ⟨z, e0, h1, _, rfl⟩ | ⟨_, V2, h1, _⟩
      · rw [hn] at h1
        simp only [Except.error.injEq, Prod.mk.injEq] at h1
        obtain ⟨hz, rfl⟩ := h1
        obtain rfl : z = 0 := by omega
        clear hz
        go_wp2_with fail
        refine (aliveQ_any w3 HT3.out).mono ?_
        rintro e w4 ⟨rfl, hb4⟩
        have HB4 := hid (HB3.out.trans (hb4.mono HB3.out.size))
        clear hb4
        go_wp2
        go_ret
        exact ⟨rfl, HB4.out⟩
      · rw [hn] at h1; cases h1
    · have hsz' : ¬ (200 : Int) < (t.size : Int) := by omega
      have hq := HQ.out (by omega)
      rcases hres with ⟨z, e0, h1, _⟩ | ⟨m, V2, h1, rfl, h3⟩
      · rw [hq] at h1; cases h1
      · have HE : Hid (l.map (·.1) = m.map (·.1)) := hid (by rw [hq] at h1; simpa using h1)
        have HM3 := hid (steps_in h3)
        obtain ⟨ao2, cap2, rfl, _⟩ := HM3.out.1
        clear h1 h3 hq
        go_wp2_with fail
        refine (aliveQ_any w3 HT3.out).mono ?_
        rintro e w4 ⟨rfl, hb4⟩
        have HT4 := hid (HT3.out.below hb4)
        have HI4 := hid (HI3.out.below hb4)
        have HM4 := hid (HM3.out.below hb4)
        have HB4 := hid (HB3.out.trans (hb4.mono HB3.out.size))
        clear hb4
        go_wp2_with fail
        refine Calls.mono (sameQ_any _ _ l m w4 HI4 HM4 HE.out) ?_
        rintro e w6 ⟨rfl, hb6⟩
        have HB6 := hid (HB4.out.trans (hb6.mono HB4.out.size))
        clear hb6
        go_wp2
        go_ret
        exact ⟨rfl, HB6.out⟩

set_option maxRecDepth 100000 in
theorem contract (H : Type) (enc : TypeId × Value → H) (W : World) (base : Nat) (args : Array Value) (ds gs : List (DataW H)) (before : List MemPlace)
    (hval : ∀ (j : Nat) t v, Tryd.f5.params[j]? = some t → args[j]? = some v → Value.okWide Tryd.prog W .any base t v)
    (hW : DataW.Whole enc Tryd.prog Tryd.f5.params.toList Rows.pathqBackSpec.vars false W args.toList ds gs before) (hL : laidMetH Tryd.prog laidT W)
    (hk : Rows.uptoSmall H (ds ++ gs) = true) :
    Calls Tryd.prog 5 args W fun e W' => ∃ v, e = .returned v ∧ Rows.pathqBackSpec.post enc Tryd.prog Tryd.f5 false true false false W args v W' := by
  have hW' := hW
  obtain ⟨p, q, hA0, hV, rfl, hfz, hnd⟩ := hW
  have hA : DataW.TrodAll enc Tryd.prog W 0 (fun _ => true) true Tryd.f5.params.toList args.toList ds p := hA0
  rw [Tryd.params5] at hA hval
  obtain ⟨v0, vs0, d0, ds0, p0, q0, hargs, rfl, rfl, h0, r0⟩ := trodAll_cons hA
  obtain ⟨rfl, rfl, rfl⟩ := trodAll_nil r0
  obtain rfl : args = #[v0] := by cases args; simp_all
  obtain ⟨rfl, rfl⟩ := trodVars_none hV
  obtain ⟨l0, i0, f0⟩ := open_stepsU (hval 0 22 v0 rfl rfl) h0
  have hk1 : Rows.uptoBulkAll _ ≤ 1048576 := of_decide_eq_true hk
  simp only [List.append_nil, Rows.uptoBulkAll] at hk1
  replace f0 : ∀ x ∈ l0, FitS 1048576 x.1 := fun x hx => (f0 x hx).mono (by omega)
  have hT := tab_of hL
  clear hA0 hL hk hk1
  try simp only [List.append_nil] at hW'
  refine (walk v0 l0 (hid i0) (hid f0) hT).mono fun e W' ⟨he, hb⟩ => ?_
  subst he
  exact ⟨_, rfl, _, _, _, _, _, _, hW', trodAll_mk1 (shut_bool Tryd.underlying4 _), (trodAll_cons_mk (again_items (by kernel_rfl) (of_decide_eq_true (by kernel_rfl)) h0 (fun x hx => trod_lt h0 x hx) hb) trodAll_mk0), rfl, hb.frame _, fun h => by cases h⟩

theorem reads (os : Os) {H : Type} (enc : TypeId × Value → H) : ∃ places, DataW.whole enc Tryd.prog ((World.doorLaid Tryd.prog 400 os).forCall (fun _ _ => 0) ⟨#[], #[.slice none 0 0], []⟩).memory Tryd.f5.params.toList Rows.pathqBackSpec.vars false #[Value.slice none 0 0].toList 8 = some ([.nil], [], places) :=
  ⟨[], by kernel_rfl⟩
theorem laid_met (os : Os) (args : Array Value) : laidMet Tryd.prog Rows.pathqBackUptoRow.laid ((World.doorLaid Tryd.prog 400 os).forCall (fun _ _ => 0) ⟨#[], args, []⟩).memory :=
  laidMet_of_run' 8 (by kernel_rfl) (by kernel_rfl)

set_option maxRecDepth 100000 in
theorem lifted (os : Os) (started : os.Started) (H : Type) (enc : TypeId × Value → H) (F : Stop.Interp) :
    ReturnsInHanded {} Tryd.checked os 5 .any ((Rows.OpenSpec.upto Rows.pathqBackSpec).preRow enc Tryd.prog Tryd.f5 Rows.pathqBackUptoRow.domain false Rows.pathqBackUptoRow.laid) (((Rows.OpenSpec.upto Rows.pathqBackSpec).at F).post enc Tryd.prog Tryd.f5 false true false false) := by
  obtain ⟨places, hx⟩ := reads os enc
  refine returnsInHanded_of_row (C := Tryd.checked) (s := (Rows.OpenSpec.upto Rows.pathqBackSpec)) own started (by kernel_rfl) Tryd.func5
    (witness_row_at (enc := enc) (C := Tryd.checked) false (World.doorLaid Tryd.prog 400 os) #[.slice none 0 0] rfl (by kernel_rfl) (by kernel_rfl) (by kernel_rfl)
      (OpenSpec.preRow_of_cond 8 hx (by kernel_rfl) (fun k hk => by cases hk; kernel_rfl) (by kernel_rfl) (laid_met os _))) ?_
  intro W base args ds gs before hval hW _ hcond hsz hL _ _
  exact contract H enc W base args ds gs before hval hW hL (hcond _ rfl)

theorem over : Rows.PathqBackUptoSaid :=
  OpenClaim.holds_of_cond 5 Tryd.f5 rfl rfl rfl rfl rfl rfl rfl ⟨rfl, rfl, rfl, rfl, rfl⟩ rfl rfl rfl rfl rfl (by kernel_rfl) Tryd.func5 (by kernel_rfl)
    (of_decide_eq_true (by kernel_rfl)) (by unfold Func.isWrapper; first | (rw [if_pos (by decide +kernel)]; kernel_rfl) | (rw [if_neg (by decide +kernel)]; exact ⟨rfl, rfl⟩))
    (fun os started H enc _ F => by rw [OpenClaim.pre_eq_preRow]; exact lifted os started H enc F)
theorem plain (f : FuncId) (fn : Func) (hf : Tryd.pinned.checked.prog.funcNamed Rows.pathqBackUptoRow.func = some f) (hfn : Tryd.pinned.checked.prog.funcs[f]? = some fn) :
    false = Tryd.pinned.checked.prog.looks [] ∧ ∀ (j : Nat) t, fn.params[j]? = some t → Tryd.pinned.checked.prog.wantsStandIn t = false := by
  obtain rfl : f = 5 := Option.some.inj ((show Tryd.prog.funcNamed Rows.pathqBackUptoRow.func = some 5 by kernel_rfl).symm.trans hf) |>.symm
  obtain rfl : fn = Tryd.f5 := (Option.some.inj (Tryd.func5.symm.trans hfn)).symm
  refine ⟨by kernel_rfl, fun j t ht => ?_⟩
  rw [Tryd.params5] at ht
  have hm : t ∈ [22] := by simpa using Array.mem_of_getElem? ht
  have hall : ([22].all fun u => !Tryd.prog.wantsStandIn u) = true := by kernel_rfl
  exact (show Tryd.prog.wantsStandIn t = false by simpa using List.all_eq_true.1 hall t hm)
end PathqBack

theorem pathqBackUpto_holds : Rows.PathqBackUptoCardSaid :=
  Claim7.holds_tied_plain_at .later [] _ _ _ _ PathqBack.over (fun _ h => by cases h) (by kernel_rfl) (fun _ h => by cases h) pathqBackUpto_row_tie rfl ⟨rfl, rfl⟩ (by kernel_rfl) rfl PathqBack.plain (by kernel_rfl)
#print axioms pathqBackUpto_holds
end Go.Proofs.YtncgkglebpobpaaDoor
