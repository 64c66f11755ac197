/- PROVED: of any text, PathqAgain returns true: what was read may be, and written and read again it is the same; the text reads afterwards as it read before. Its conditions: the tables of glyph, pathq and strconv lie as the program's text lays them. -/
import Derived.Test.YtncgkglebpobpaaDoorQAlive
import Derived.Test.YtncgkglebpobpaaDoorQSame
import Derived.Test.YtncgkglebpobpaaDoorQFit
import Derived.Test.YtncgkglebpobpaaDoorQLaid
import Derived.Test.YtncgkglebpobpaaDoorTie
import Derived.Test.YtncgkglebpobpaaDoorCards
import Derived.SevenTiedAt
import Derived.Deep.DeepHandedRow
namespace Go.Proofs.YtncgkglebpobpaaDoor
open Go.ChangeShapes Go.WideShapes Go.ChangeAt Go.RowKit Go.Shelf
open Go.ChangeMaps (open_string shut_string)
namespace PathqAgain
set_option maxRecDepth 100000 in
set_option maxHeartbeats 4000000 in
theorem walk (s : ByteArray) (_ : s.size ≤ 140737488351232) (w : World) (ht : TabQ w) :
    Calls Tryd.prog 6 #[.string s] w fun e w' => e = .returned (.bool true) ∧ Below w.heap.size w w' := by
  have HT := hid ht
  clear ht
  obtain ⟨res, HR⟩ : ∃ res, Hid (Q.parseP s = res) := ⟨_, hid rfl⟩
  go_enter Tryd.func6, Tryd.ntmps6
  go_wp2_with fail
  refine Calls.mono (qparse_any s w HT.out res HR) ?_
  rintro e w1 ⟨hb1, ⟨z, e0, h1, h2, rfl⟩ | ⟨l, V, h1, rfl, h3⟩⟩
  · have b1 : (e0 == 0) = false := beq_eq_false_iff_ne.2 h2
    have HT1 := hid (HT.out.below hb1)
    have HB1 := hid hb1
    clear hb1 h1 h2 HR
    go_wp2_with fail
    refine (aliveQ_any w1 HT1.out).mono ?_
    rintro e w2 ⟨rfl, hb2⟩
    have HB2 := hid (HB1.out.trans (hb2.mono HB1.out.size))
    clear hb2
    go_wp2
    go_ret
    exact ⟨rfl, HB2.out⟩
  · have hp := HR.out.trans h1
    obtain ⟨hr1, hr2, hr3⟩ := Q.parse_right hp
    have HRB : Hid (Q.rightLB (l.map (·.1)) = true) := hid ((Q.rightL_B _).2 ⟨by have := List.length_pos_iff.2 hr3; omega, hr2, hr1⟩)
    have HFF := Q.parse_fit hp
    have F1 : Hid (∀ x ∈ l, FitS 1048576 x.1) := hid (fun x hx => (HFF x.1 (List.mem_map_of_mem hx)).mono (by decide))
    have F2 : Hid (∀ x ∈ l, FitS maxLen x.1) := hid (fun x hx => (HFF x.1 (List.mem_map_of_mem hx)).mono (by unfold maxLen; decide))
    obtain ⟨t, HTX⟩ : ∃ t : ByteArray, Hid (Q.stepsW (l.map (·.1)) = t.data.toList) := ⟨⟨(Q.stepsW (l.map (·.1))).toArray⟩, hid rfl⟩
    have ts : (Q.stepsW (l.map (·.1))).length = t.size := by rw [HTX.out]; exact len_size t
    have tb : S.bA (Q.stepsW (l.map (·.1))) = t := by rw [HTX.out]; exact S.bA_self t
    have HI := hid (steps_in h3)
    obtain ⟨ao, cap, rfl, _⟩ := HI.out.1
    have HT1 := hid (HT.out.below hb1)
    have HB1 := hid hb1
    obtain ⟨res2, HR2⟩ : ∃ r, Hid (Q.parseP t = r) := ⟨_, hid rfl⟩
    have HQ : Hid (t.size ≤ 200 → res2 = .ok (l.map (·.1))) := hid (fun h => by rw [← HR2.out, ← tb]; exact Q.query_back hr1 hr3 hr2 (by omega))
    have HN : Hid (200 < t.size → res2 = .error (0, 71)) := hid (fun h => by rw [← HR2.out]; unfold Q.parseP; rw [if_pos h])
    clear hb1 h1 h3 hp hr1 hr2 hr3 HFF ts tb HR
    go_wp2_with fail
    refine Calls.mono (print_any _ l w1 HT1.out HI F1 true HRB t (hid fun _ => HTX.out)) ?_
    rintro e w2 ⟨rfl, hb2⟩
    have HT2 := hid (HT1.out.below hb2)
    have HI2 := hid (HI.out.below hb2)
    have HB2 := hid (HB1.out.trans (hb2.mono HB1.out.size))
    clear hb2 HB1 HT1 HI
    go_wp2_with fail
    refine Calls.mono (qparse_any t w2 HT2.out res2 HR2) ?_
    rintro e w3 ⟨hb3, hres⟩
    have HT3 := hid (HT2.out.below hb3)
    have HI3 := hid (HI2.out.below hb3)
    have HB3 := hid (HB2.out.trans (hb3.mono HB2.out.size))
    clear hb3 HB2 HT2 HI2
    by_cases hsz : 200 < t.size
    · have hsz' : (200 : Int) < (t.size : Int) := by omega
      have hn := HN.out hsz
      obtain ⟨V2, z, e0, rfl⟩ : ∃ V2 z e0, e = .returned (.tuple #[V2, .int .i64 z, .int .i64 e0]) := by
        rcases hres with ⟨z, e0, _, _, rfl⟩ | ⟨_, V2, _, rfl, _⟩
        · exact ⟨_, _, _, rfl⟩
        · exact ⟨_, _, _, rfl⟩
      clear hres
      go_wp2_with fail
      refine (aliveQ_any w3 HT3.out).mono ?_
      rintro e w4 ⟨rfl, hb4⟩
      have HT4 := hid (HT3.out.below hb4)
      have HI4 := hid (HI3.out.below hb4)
      have HB4 := hid (HB3.out.trans (hb4.mono HB3.out.size))
      clear hb4
      go_wp2_with fail
      refine Calls.mono (right_any _ l w4 HT4.out.st HI4 F2 true HRB) ?_
      rintro e w5 ⟨rfl, hb5⟩
      have HB5 := hid (HB4.out.trans (hb5.mono HB4.out.size))
      clear hb5
      go_wp2
      go_ret
      exact ⟨rfl, HB5.out⟩
    · have hsz' : ¬ (200 : Int) < (t.size : Int) := by omega
      have hq := HQ.out (by omega)
      rcases hres with ⟨z, e0, h1, _⟩ | ⟨m, V2, h1, rfl, h3⟩
      · rw [hq] at h1; cases h1
      · have HE : Hid (l.map (·.1) = m.map (·.1)) := hid (by rw [hq] at h1; simpa using h1)
        have HM3 := hid (steps_in h3)
        obtain ⟨ao2, cap2, rfl, _⟩ := HM3.out.1
        clear h1 h3 hq
        go_wp2_with fail
        refine (aliveQ_any w3 HT3.out).mono ?_
        rintro e w4 ⟨rfl, hb4⟩
        have HT4 := hid (HT3.out.below hb4)
        have HI4 := hid (HI3.out.below hb4)
        have HM4 := hid (HM3.out.below hb4)
        have HB4 := hid (HB3.out.trans (hb4.mono HB3.out.size))
        clear hb4
        go_wp2_with fail
        refine Calls.mono (right_any _ l w4 HT4.out.st HI4 F2 true HRB) ?_
        rintro e w5 ⟨rfl, hb5⟩
        have HI5 := hid (HI4.out.below hb5)
        have HM5 := hid (HM4.out.below hb5)
        have HB5 := hid (HB4.out.trans (hb5.mono HB4.out.size))
        clear hb5
        go_wp2_with fail
        refine Calls.mono (sameQ_any _ _ l m w5 HI5 HM5 HE.out) ?_
        rintro e w6 ⟨rfl, hb6⟩
        have HB6 := hid (HB5.out.trans (hb6.mono HB5.out.size))
        clear hb6
        go_wp2
        go_ret
        exact ⟨rfl, HB6.out⟩

set_option maxRecDepth 100000 in
theorem contract (H : Type) (enc : TypeId × Value → H) (W : World) (base : Nat) (args : Array Value) (ds gs : List (DataW H)) (before : List MemPlace)
    (hval : ∀ (j : Nat) t v, Tryd.f6.params[j]? = some t → args[j]? = some v → Value.okWide Tryd.prog W .any base t v)
    (hW : DataW.Whole enc Tryd.prog Tryd.f6.params.toList Rows.pathqAgainSpec.vars false W args.toList ds gs before) (hL : laidMetH Tryd.prog laidT W)
    (hsz : (DataW.weightsEach Tryd.prog (Tryd.f6.params.toList ++ (OpenSpec.ofChange Rows.pathqAgainSpec).bare.plain.varTypes Tryd.prog) (ds ++ gs)).all (· ≤ reachBytes) = true) :
    Calls Tryd.prog 6 args W fun e W' => ∃ v, e = .returned v ∧ Rows.pathqAgainSpec.post enc Tryd.prog Tryd.f6 false true false false W args v W' := by
  have hW' := hW
  obtain ⟨p, q, hA0, hV, rfl, hfz, hnd⟩ := hW
  have hA : DataW.TrodAll enc Tryd.prog W 0 (fun _ => true) true Tryd.f6.params.toList args.toList ds p := hA0
  rw [Tryd.params6] at hA hval
  rw [Tryd.params6] at hsz
  obtain ⟨v0, vs0, d0, ds0, p0, q0, hargs, rfl, rfl, h0, r0⟩ := trodAll_cons hA
  obtain ⟨rfl, rfl, rfl⟩ := trodAll_nil r0
  obtain rfl : args = #[v0] := by cases args; simp_all
  obtain ⟨rfl, rfl⟩ := trodVars_none hV
  obtain ⟨a0, rfl, rfl, rfl, w0⟩ := open_string Tryd.underlying9 (hval 0 9 v0 rfl rfl) h0
  have z0 : a0.size ≤ 140737488351232 := by simpa [reachBytes] using sized_string hsz (j := 0) (t := 9) rfl rfl
  have hT := tab_of hL
  clear hA0 hL hsz
  simp only [List.append_nil] at hW'
  refine (walk a0 z0 W hT).mono fun e W' ⟨he, hb⟩ => ?_
  subst he
  exact ⟨_, rfl, _, _, _, [], [], [], hW', trodAll_mk1 (shut_bool Tryd.underlying4 _), (trodAll_cons_mk (shut_string Tryd.underlying9 w0) trodAll_mk0), rfl, hb.frame _, fun h => by cases h⟩

theorem reads (os : Os) {H : Type} (enc : TypeId × Value → H) : ∃ places, DataW.whole enc Tryd.prog ((World.doorLaid Tryd.prog 400 os).forCall (fun _ _ => 0) ⟨#[], #[.string ⟨#[]⟩], []⟩).memory Tryd.f6.params.toList Rows.pathqAgainSpec.vars false #[Value.string ⟨#[]⟩].toList 8 = some ([.lit (.string [])], [], places) :=
  ⟨[], by kernel_rfl⟩
theorem laid_met (os : Os) (args : Array Value) : laidMet Tryd.prog Rows.pathqAgainRow.laid ((World.doorLaid Tryd.prog 400 os).forCall (fun _ _ => 0) ⟨#[], args, []⟩).memory :=
  laidMet_of_run' 8 (by kernel_rfl) (by kernel_rfl)

set_option maxRecDepth 100000 in
theorem lifted (os : Os) (started : os.Started) (H : Type) (enc : TypeId × Value → H) (F : Stop.Interp) :
    ReturnsInHanded {} Tryd.checked os 6 .any ((OpenSpec.ofChange Rows.pathqAgainSpec).preRow enc Tryd.prog Tryd.f6 Rows.pathqAgainRow.domain false Rows.pathqAgainRow.laid) (((OpenSpec.ofChange Rows.pathqAgainSpec).at F).post enc Tryd.prog Tryd.f6 false true false false) := by
  obtain ⟨places, hx⟩ := reads os enc
  refine returnsInHanded_of_row (C := Tryd.checked) (s := (OpenSpec.ofChange Rows.pathqAgainSpec)) own started (by kernel_rfl) Tryd.func6
    (witness_row_at (enc := enc) (C := Tryd.checked) false (World.doorLaid Tryd.prog 400 os) #[.string ⟨#[]⟩] rfl (by kernel_rfl) (by kernel_rfl) (by kernel_rfl)
      (OpenSpec.preRow_of_cond 8 hx (by kernel_rfl) (fun k hk => by cases hk) (by kernel_rfl) (laid_met os _))) ?_
  intro W base args ds gs before hval hW _ hcond hsz hL _ _
  exact contract H enc W base args ds gs before hval hW hL hsz

theorem over : Rows.PathqAgainSaid :=
  OpenClaim.holds_of_cond 6 Tryd.f6 rfl rfl rfl rfl rfl rfl rfl ⟨rfl, rfl, rfl, rfl, rfl⟩ rfl rfl rfl rfl rfl (by kernel_rfl) Tryd.func6 (by kernel_rfl)
    (of_decide_eq_true (by kernel_rfl)) (by unfold Func.isWrapper; first | (rw [if_pos (by decide +kernel)]; kernel_rfl) | (rw [if_neg (by decide +kernel)]; exact ⟨rfl, rfl⟩))
    (fun os started H enc _ F => by rw [OpenClaim.pre_eq_preRow]; exact lifted os started H enc F)
theorem plain (f : FuncId) (fn : Func) (hf : Tryd.pinned.checked.prog.funcNamed Rows.pathqAgainRow.func = some f) (hfn : Tryd.pinned.checked.prog.funcs[f]? = some fn) :
    false = Tryd.pinned.checked.prog.looks [] ∧ ∀ (j : Nat) t, fn.params[j]? = some t → Tryd.pinned.checked.prog.wantsStandIn t = false := by
  obtain rfl : f = 6 := Option.some.inj ((show Tryd.prog.funcNamed Rows.pathqAgainRow.func = some 6 by kernel_rfl).symm.trans hf) |>.symm
  obtain rfl : fn = Tryd.f6 := (Option.some.inj (Tryd.func6.symm.trans hfn)).symm
  refine ⟨by kernel_rfl, fun j t ht => ?_⟩
  rw [Tryd.params6] at ht
  have hm : t ∈ [9] := by simpa using Array.mem_of_getElem? ht
  have hall : ([9].all fun u => !Tryd.prog.wantsStandIn u) = true := by kernel_rfl
  exact (show Tryd.prog.wantsStandIn t = false by simpa using List.all_eq_true.1 hall t hm)
end PathqAgain

theorem pathqAgain_holds : Rows.PathqAgainCardSaid :=
  Claim7.holds_tied_plain_at .later [] _ _ _ _ PathqAgain.over (fun _ h => by cases h) (by kernel_rfl) (fun _ h => by cases h) pathqAgain_row_tie rfl ⟨rfl, rfl⟩ (by kernel_rfl) rfl PathqAgain.plain (by kernel_rfl)
#print axioms pathqAgain_holds
end Go.Proofs.YtncgkglebpobpaaDoor
