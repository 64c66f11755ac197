/- PROVED: of any text ScribeAgain returns true: what is printed of what was read is read as the same; printed again it is the same text. Its conditions: the table of glyph lies as the program's text lays it. -/
import Derived.Test.YtmnegpdegfianaaGreatDoorSBack8
namespace Go.Proofs.YtmnegpdegfianaaGreatDoor
open Go.ChangeShapes Go.WideShapes Go.ChangeAt Go.RowKit Go.Shelf
open Go.ChangeMaps (open_string shut_string)
namespace ScribeAgain
set_option maxRecDepth 100000 in
set_option maxHeartbeats 4000000 in
theorem walk (s : ByteArray) (hz : s.size ≤ 140737488351232) (w : World) (ht : Tab w) :
    Calls Tryz.prog 4 #[.string s] w fun e w' => e = .returned (.bool true) ∧ Below w.heap.size w w' := by
  have HT := hid ht
  clear ht
  by_cases h20 : 20000 < s.size
  · have h20' : (20000 : Int) < (s.size : Int) := by omega
    have AL := hid (alive5_any w HT.out)
    go_enter Tryz.func4, Tryz.ntmps4
    go_wp2_with fail
    refine AL.out.mono ?_
    rintro e w1 ⟨rfl, hb1⟩
    go_wp2
    go_ret
    exact ⟨rfl, hb1⟩
  · have h20' : ¬ (20000 : Int) < (s.size : Int) := by omega
    obtain ⟨res, HRES⟩ : ∃ res, Hid (P.parseP s = res) := ⟨_, hid rfl⟩
    have PA := hid (parse_any s w HT.out hz res HRES)
    go_enter Tryz.func4, Tryz.ntmps4
    go_wp2_with fail
    refine PA.out.mono ?_
    rintro e w1 ⟨hb1, hres⟩
    have HB1 := hid hb1
    clear hb1 PA
    rcases hres with ⟨q, e0, rfl, he0, rfl⟩ | ⟨l1, V1, rfl, rfl, hr1⟩
    · have he' : (e0 != 0) = true := by simpa using he0
      clear he0
      go_wp2_with fail
      refine (alive5_any w1 (HT.out.below HB1.out)).mono ?_
      rintro e w2 ⟨rfl, hb2⟩
      have HB2 := hid (HB1.out.trans (hb2.mono HB1.out.size))
      clear hb2
      go_wp2
      go_ret
      exact ⟨rfl, HB2.out⟩
    · obtain ⟨v1a, v1n, v1c, rfl⟩ : ∃ a n c, V1 = .slice a n c := by
        rcases hr1.1.2 with ⟨rfl, _⟩ | ⟨g, cap, cur, rfl, _⟩
        · exact ⟨_, _, _, rfl⟩
        · exact ⟨_, _, _, rfl⟩
      have I1 := hid (items_in hr1)
      have HC1 : Hid (P.checkP (l1.map (·.1)) = (0, 0)) := hid (P.parse_right HRES.out)
      have HN1 : Hid (S.normalP (l1.map (·.1)) = l1.map (·.1)) := hid (S.parse_normal HRES.out)
      have HF1 : Hid (∀ x ∈ l1, FitC x.1) := hid (fun x hx => P.fit_of HC1.out x.1 (List.mem_map.2 ⟨x, hx, rfl⟩))
      obtain ⟨t, HTT⟩ : ∃ t, Hid (S.bA (S.printF (S.normalP (l1.map (·.1))) []) = t) := ⟨_, hid rfl⟩
      have HTZ : Hid (t.size ≤ 140737488351232) := hid (by
        rw [← HTT.out, S.bA_size]
        have := S.print_short HC1.out
        omega)
      have HPT : Hid (P.parseP t = .ok (l1.map (·.1))) := hid (by
        have := S.print_self HC1.out HN1.out
        rw [← HTT.out, HN1.out]
        exact this)
      have PR := hid (print_ok _ l1 w1 I1 HF1 (HT.out.below HB1.out) HC1)
      rw [HTT.out] at PR
      clear hr1
      go_wp2_with fail
      refine PR.out.mono ?_
      rintro e w2 ⟨rfl, hb2⟩
      have HB2 := hid (HB1.out.trans (hb2.mono HB1.out.size))
      have I12 := hid (I1.out.below hb2)
      clear hb2 I1 PR
      have PA2 := hid (parse_any t w2 (HT.out.below HB2.out) HTZ.out _ HPT)
      go_wp2_with fail
      refine PA2.out.mono ?_
      rintro e w3 ⟨hb3, hres⟩
      have HB3 := hid (HB2.out.trans (hb3.mono HB2.out.size))
      have I13 := hid (I12.out.below hb3)
      clear hb3 I12 PA2
      rcases hres with ⟨q, e0, h, _⟩ | ⟨l3, V3, he3, rfl, hr3⟩
      · cases h
      · have HE3 : Hid (l1.map (·.1) = l3.map (·.1)) := hid (by simpa using he3)
        obtain ⟨v3a, v3n, v3c, rfl⟩ : ∃ a n c, V3 = .slice a n c := by
          rcases hr3.1.2 with ⟨rfl, _⟩ | ⟨g, cap, cur, rfl, _⟩
          · exact ⟨_, _, _, rfl⟩
          · exact ⟨_, _, _, rfl⟩
        have I33 := hid (items_in hr3)
        have HC3 : Hid (P.checkP (l3.map (·.1)) = (0, 0)) := hid (by rw [← HE3.out]; exact HC1.out)
        have HF3 : Hid (∀ x ∈ l3, FitC x.1) := hid (fun x hx => P.fit_of HC1.out x.1 (by rw [HE3.out]; exact List.mem_map.2 ⟨x, hx, rfl⟩))
        have PR3 := hid (print_ok _ l3 w3 I33 HF3 (HT.out.below HB3.out) HC3)
        rw [← HE3.out, HTT.out] at PR3
        clear hr3 he3
        go_wp2_with fail
        refine PR3.out.mono ?_
        rintro e w4 ⟨rfl, hb4⟩
        have HB4 := hid (HB3.out.trans (hb4.mono HB3.out.size))
        have I14 := hid (I13.out.below hb4)
        have I34 := hid (I33.out.below hb4)
        clear hb4 I13 I33 PR3
        go_wp2_with fail
        refine (alive5_any w4 (HT.out.below HB4.out)).mono ?_
        rintro e w5 ⟨rfl, hb5⟩
        have HB5 := hid (HB4.out.trans (hb5.mono HB4.out.size))
        have I15 := hid (I14.out.below hb5)
        have I35 := hid (I34.out.below hb5)
        clear hb5 I14 I34
        go_wp2_with fail
        refine (same_any' _ _ l1 l3 w5 true (hid (by rw [HE3.out]; exact S.sameL_self _)) I15 I35).mono ?_
        rintro e w6 ⟨rfl, hb6⟩
        have HB6 := hid (HB5.out.trans (hb6.mono HB5.out.size))
        clear hb6
        go_wp2
        go_ret
        exact ⟨rfl, HB6.out⟩
set_option maxRecDepth 100000 in
theorem contract (H : Type) (enc : TypeId × Value → H) (W : World) (base : Nat) (args : Array Value) (ds gs : List (DataW H)) (before : List MemPlace)
    (hval : ∀ (j : Nat) t v, Tryz.f4.params[j]? = some t → args[j]? = some v → Value.okWide Tryz.prog W .any base t v)
    (hW : DataW.Whole enc Tryz.prog Tryz.f4.params.toList Rows.scribeAgainSpec.vars false W args.toList ds gs before) (hL : laidMetH Tryz.prog laidT W)
    (hsz : (DataW.weightsEach Tryz.prog (Tryz.f4.params.toList ++ (OpenSpec.ofChange Rows.scribeAgainSpec).bare.plain.varTypes Tryz.prog) (ds ++ gs)).all (· ≤ reachBytes) = true) :
    Calls Tryz.prog 4 args W fun e W' => ∃ v, e = .returned v ∧ Rows.scribeAgainSpec.post enc Tryz.prog Tryz.f4 false true false false W args v W' := by
  have hW' := hW
  obtain ⟨p, q, hA0, hV, rfl, hfz, hnd⟩ := hW
  have hA : DataW.TrodAll enc Tryz.prog W 0 (fun _ => true) true Tryz.f4.params.toList args.toList ds p := hA0
  rw [Tryz.params4] at hA hval
  rw [Tryz.params4] at hsz
  obtain ⟨v0, vs0, d0, ds0, p0, q0, hargs, rfl, rfl, h0, r0⟩ := trodAll_cons hA
  obtain ⟨rfl, rfl, rfl⟩ := trodAll_nil r0
  obtain rfl : args = #[v0] := by cases args; simp_all
  obtain ⟨rfl, rfl⟩ := trodVars_none hV
  obtain ⟨a0, rfl, rfl, rfl, w0⟩ := open_string Tryz.underlying9 (hval 0 9 v0 rfl rfl) h0
  have z0 : a0.size ≤ 140737488351232 := by simpa [reachBytes] using sized_string hsz (j := 0) (t := 9) rfl rfl
  have hT := tab_of hL
  clear hA0 hL hsz
  simp only [List.append_nil] at hW'
  refine (walk a0 z0 W hT).mono fun e W' ⟨he, hb⟩ => ?_
  subst he
  exact ⟨_, rfl, _, _, _, [], [], [], hW', trodAll_mk1 (shut_bool Tryz.underlying4 _), (trodAll_cons_mk (shut_string Tryz.underlying9 w0) trodAll_mk0), rfl, hb.frame _, fun h => by cases h⟩

theorem reads (os : Os) {H : Type} (enc : TypeId × Value → H) : ∃ places, DataW.whole enc Tryz.prog ((World.doorLaid Tryz.prog 400 os).forCall (fun _ _ => 0) ⟨#[], #[.string ⟨#[]⟩], []⟩).memory Tryz.f4.params.toList Rows.scribeAgainSpec.vars false #[Value.string ⟨#[]⟩].toList 8 = some ([.lit (.string [])], [], places) :=
  ⟨[], by kernel_rfl⟩
theorem laid_met (os : Os) (args : Array Value) : laidMet Tryz.prog Rows.scribeAgainRow.laid ((World.doorLaid Tryz.prog 400 os).forCall (fun _ _ => 0) ⟨#[], args, []⟩).memory :=
  laidMet_of_run' 8 (by kernel_rfl) (by kernel_rfl)

set_option maxRecDepth 100000 in
theorem lifted (os : Os) (started : os.Started) (H : Type) (enc : TypeId × Value → H) (F : Stop.Interp) :
    ReturnsInHanded {} Tryz.checked os 4 .any ((OpenSpec.ofChange Rows.scribeAgainSpec).preRow enc Tryz.prog Tryz.f4 Rows.scribeAgainRow.domain false Rows.scribeAgainRow.laid) (((OpenSpec.ofChange Rows.scribeAgainSpec).at F).post enc Tryz.prog Tryz.f4 false true false false) := by
  obtain ⟨places, hx⟩ := reads os enc
  refine returnsInHanded_of_row (C := Tryz.checked) (s := (OpenSpec.ofChange Rows.scribeAgainSpec)) own started (by kernel_rfl) Tryz.func4
    (witness_row_at (enc := enc) (C := Tryz.checked) false (World.doorLaid Tryz.prog 400 os) #[.string ⟨#[]⟩] rfl (by kernel_rfl) (by kernel_rfl) (by kernel_rfl)
      (OpenSpec.preRow_of_cond 8 hx (by kernel_rfl) (fun k hk => by cases hk) (by kernel_rfl) (laid_met os _))) ?_
  intro W base args ds gs before hval hW _ hcond hsz hL _ _
  exact contract H enc W base args ds gs before hval hW hL hsz

theorem over : Rows.ScribeAgainSaid :=
  OpenClaim.holds_of_cond 4 Tryz.f4 rfl rfl rfl rfl rfl rfl rfl ⟨rfl, rfl, rfl, rfl, rfl⟩ rfl rfl rfl rfl rfl (by kernel_rfl) Tryz.func4 (by kernel_rfl)
    (of_decide_eq_true (by kernel_rfl)) (by unfold Func.isWrapper; first | (rw [if_pos (by decide +kernel)]; kernel_rfl) | (rw [if_neg (by decide +kernel)]; exact ⟨rfl, rfl⟩))
    (fun os started H enc _ F => by rw [OpenClaim.pre_eq_preRow]; exact lifted os started H enc F)
theorem plain (f : FuncId) (fn : Func) (hf : Tryz.pinned.checked.prog.funcNamed Rows.scribeAgainRow.func = some f) (hfn : Tryz.pinned.checked.prog.funcs[f]? = some fn) :
    false = Tryz.pinned.checked.prog.looks [] ∧ ∀ (j : Nat) t, fn.params[j]? = some t → Tryz.pinned.checked.prog.wantsStandIn t = false := by
  obtain rfl : f = 4 := Option.some.inj ((show Tryz.prog.funcNamed Rows.scribeAgainRow.func = some 4 by kernel_rfl).symm.trans hf) |>.symm
  obtain rfl : fn = Tryz.f4 := (Option.some.inj (Tryz.func4.symm.trans hfn)).symm
  refine ⟨by kernel_rfl, fun j t ht => ?_⟩
  rw [Tryz.params4] at ht
  have hm : t ∈ [9] := by simpa using Array.mem_of_getElem? ht
  have hall : ([9].all fun u => !Tryz.prog.wantsStandIn u) = true := by kernel_rfl
  exact (show Tryz.prog.wantsStandIn t = false by simpa using List.all_eq_true.1 hall t hm)
end ScribeAgain

theorem scribeAgain_holds : Rows.ScribeAgainCardSaid :=
  Claim7.holds_tied_plain_at .later [] _ _ _ _ ScribeAgain.over (fun _ h => by cases h) (by kernel_rfl) (fun _ h => by cases h) scribeAgain_row_tie rfl ⟨rfl, rfl⟩ (by kernel_rfl) rfl ScribeAgain.plain (by kernel_rfl)
#print axioms scribeAgain_holds
end Go.Proofs.YtmnegpdegfianaaGreatDoor
