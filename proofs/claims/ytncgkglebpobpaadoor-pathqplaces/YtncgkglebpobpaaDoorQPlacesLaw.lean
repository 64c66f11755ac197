/- PROVED: of any text, PathqPlaces returns true: the place that is told of what is amiss lies in the query, or at its end; the text reads afterwards as it read before. Its conditions: the tables of glyph, pathq and strconv lie as the program's text lays them. -/
import Derived.Test.YtncgkglebpobpaaDoorQAlive
import Derived.Test.YtncgkglebpobpaaDoorQLaid
import Derived.Test.YtncgkglebpobpaaDoorQErr
import Derived.Test.YtncgkglebpobpaaDoorTie
import Derived.Test.YtncgkglebpobpaaDoorCards
import Derived.SevenTiedAt
import Derived.Deep.DeepHandedRow
namespace Go.Proofs.YtncgkglebpobpaaDoor
open Go.ChangeShapes Go.WideShapes Go.ChangeAt Go.RowKit Go.Shelf
open Go.ChangeMaps (open_string shut_string)
namespace PathqPlaces
set_option maxRecDepth 100000 in
set_option maxHeartbeats 4000000 in
theorem walk (s : ByteArray) (_ : s.size ≤ 140737488351232) (w : World) (ht : TabQ w) :
    Calls Tryd.prog 8 #[.string s] w fun e w' => e = .returned (.bool true) ∧ Below w.heap.size w w' := by
  have HT := hid ht
  clear ht
  obtain ⟨res, HR⟩ : ∃ res, Hid (Q.parseP s = res) := ⟨_, hid rfl⟩
  go_enter Tryd.func8, Tryd.ntmps8
  go_wp2_with fail
  refine Calls.mono (qparse_any s w HT.out res HR) ?_
  rintro e w1 ⟨hb1, ⟨z, e0, h1, h2, rfl⟩ | ⟨l, V, h1, rfl, h3⟩⟩
  · obtain ⟨⟨z0, z1, _⟩, z2⟩ := Q.parse_place (HR.out.trans h1)
    have z3 : (z : Int) ≤ (s.size : Int) := z1
    have z4 : z ≤ s.size := by omega
    have b1 : (e0 == 0) = false := beq_eq_false_iff_ne.2 h2
    have HT1 := hid (HT.out.below hb1)
    have HB1 := hid hb1
    by_cases h71 : e0 = 71
    · subst h71
      have HZ : Hid (z = 0) := hid (by
        by_cases hl : 200 < s.size
        · have := HR.out.trans h1
          unfold Q.parseP at this
          rw [if_pos hl] at this
          simp only [Except.error.injEq, Prod.mk.injEq] at this
          omega
        · exact absurd (HR.out.trans h1) (Q.no_long hl))
      obtain rfl := HZ.out
      clear hb1 h1 h2 HR z0 z1 z2 z3 z4 HZ
      go_wp2_with fail
      refine (aliveQ_any w1 HT1.out).mono ?_
      rintro e w2 ⟨rfl, hb2⟩
      have HB2 := hid (HB1.out.trans (hb2.mono HB1.out.size))
      clear hb2
      go_wp2
      go_ret
      exact ⟨rfl, HB2.out⟩
    · have b2 : (e0 == 71) = false := beq_eq_false_iff_ne.2 h71
      clear hb1 h1 h2 HR h71 z2
      go_wp2_with fail
      refine (aliveQ_any w1 HT1.out).mono ?_
      rintro e w2 ⟨rfl, hb2⟩
      have HB2 := hid (HB1.out.trans (hb2.mono HB1.out.size))
      clear hb2
      go_wp2
      go_ret
      exact ⟨rfl, HB2.out⟩
  · have HT1 := hid (HT.out.below hb1)
    have HB1 := hid hb1
    clear hb1 h1 h3 HR
    go_wp2_with fail
    refine (aliveQ_any w1 HT1.out).mono ?_
    rintro e w2 ⟨rfl, hb2⟩
    have HB2 := hid (HB1.out.trans (hb2.mono HB1.out.size))
    clear hb2
    go_wp2
    go_ret
    exact ⟨rfl, HB2.out⟩

set_option maxRecDepth 100000 in
theorem contract (H : Type) (enc : TypeId × Value → H) (W : World) (base : Nat) (args : Array Value) (ds gs : List (DataW H)) (before : List MemPlace)
    (hval : ∀ (j : Nat) t v, Tryd.f8.params[j]? = some t → args[j]? = some v → Value.okWide Tryd.prog W .any base t v)
    (hW : DataW.Whole enc Tryd.prog Tryd.f8.params.toList Rows.pathqPlacesSpec.vars false W args.toList ds gs before) (hL : laidMetH Tryd.prog laidT W)
    (hsz : (DataW.weightsEach Tryd.prog (Tryd.f8.params.toList ++ (OpenSpec.ofChange Rows.pathqPlacesSpec).bare.plain.varTypes Tryd.prog) (ds ++ gs)).all (· ≤ reachBytes) = true) :
    Calls Tryd.prog 8 args W fun e W' => ∃ v, e = .returned v ∧ Rows.pathqPlacesSpec.post enc Tryd.prog Tryd.f8 false true false false W args v W' := by
  have hW' := hW
  obtain ⟨p, q, hA0, hV, rfl, hfz, hnd⟩ := hW
  have hA : DataW.TrodAll enc Tryd.prog W 0 (fun _ => true) true Tryd.f8.params.toList args.toList ds p := hA0
  rw [Tryd.params8] at hA hval
  rw [Tryd.params8] at hsz
  obtain ⟨v0, vs0, d0, ds0, p0, q0, hargs, rfl, rfl, h0, r0⟩ := trodAll_cons hA
  obtain ⟨rfl, rfl, rfl⟩ := trodAll_nil r0
  obtain rfl : args = #[v0] := by cases args; simp_all
  obtain ⟨rfl, rfl⟩ := trodVars_none hV
  obtain ⟨a0, rfl, rfl, rfl, w0⟩ := open_string Tryd.underlying9 (hval 0 9 v0 rfl rfl) h0
  have z0 : a0.size ≤ 140737488351232 := by simpa [reachBytes] using sized_string hsz (j := 0) (t := 9) rfl rfl
  have hT := tab_of hL
  clear hA0 hL hsz
  simp only [List.append_nil] at hW'
  refine (walk a0 z0 W hT).mono fun e W' ⟨he, hb⟩ => ?_
  subst he
  exact ⟨_, rfl, _, _, _, [], [], [], hW', trodAll_mk1 (shut_bool Tryd.underlying4 _), (trodAll_cons_mk (shut_string Tryd.underlying9 w0) trodAll_mk0), rfl, hb.frame _, fun h => by cases h⟩

theorem reads (os : Os) {H : Type} (enc : TypeId × Value → H) : ∃ places, DataW.whole enc Tryd.prog ((World.doorLaid Tryd.prog 400 os).forCall (fun _ _ => 0) ⟨#[], #[.string ⟨#[]⟩], []⟩).memory Tryd.f8.params.toList Rows.pathqPlacesSpec.vars false #[Value.string ⟨#[]⟩].toList 8 = some ([.lit (.string [])], [], places) :=
  ⟨[], by kernel_rfl⟩
theorem laid_met (os : Os) (args : Array Value) : laidMet Tryd.prog Rows.pathqPlacesRow.laid ((World.doorLaid Tryd.prog 400 os).forCall (fun _ _ => 0) ⟨#[], args, []⟩).memory :=
  laidMet_of_run' 8 (by kernel_rfl) (by kernel_rfl)

set_option maxRecDepth 100000 in
theorem lifted (os : Os) (started : os.Started) (H : Type) (enc : TypeId × Value → H) (F : Stop.Interp) :
    ReturnsInHanded {} Tryd.checked os 8 .any ((OpenSpec.ofChange Rows.pathqPlacesSpec).preRow enc Tryd.prog Tryd.f8 Rows.pathqPlacesRow.domain false Rows.pathqPlacesRow.laid) (((OpenSpec.ofChange Rows.pathqPlacesSpec).at F).post enc Tryd.prog Tryd.f8 false true false false) := by
  obtain ⟨places, hx⟩ := reads os enc
  refine returnsInHanded_of_row (C := Tryd.checked) (s := (OpenSpec.ofChange Rows.pathqPlacesSpec)) own started (by kernel_rfl) Tryd.func8
    (witness_row_at (enc := enc) (C := Tryd.checked) false (World.doorLaid Tryd.prog 400 os) #[.string ⟨#[]⟩] rfl (by kernel_rfl) (by kernel_rfl) (by kernel_rfl)
      (OpenSpec.preRow_of_cond 8 hx (by kernel_rfl) (fun k hk => by cases hk) (by kernel_rfl) (laid_met os _))) ?_
  intro W base args ds gs before hval hW _ hcond hsz hL _ _
  exact contract H enc W base args ds gs before hval hW hL hsz

theorem over : Rows.PathqPlacesSaid :=
  OpenClaim.holds_of_cond 8 Tryd.f8 rfl rfl rfl rfl rfl rfl rfl ⟨rfl, rfl, rfl, rfl, rfl⟩ rfl rfl rfl rfl rfl (by kernel_rfl) Tryd.func8 (by kernel_rfl)
    (of_decide_eq_true (by kernel_rfl)) (by unfold Func.isWrapper; first | (rw [if_pos (by decide +kernel)]; kernel_rfl) | (rw [if_neg (by decide +kernel)]; exact ⟨rfl, rfl⟩))
    (fun os started H enc _ F => by rw [OpenClaim.pre_eq_preRow]; exact lifted os started H enc F)
theorem plain (f : FuncId) (fn : Func) (hf : Tryd.pinned.checked.prog.funcNamed Rows.pathqPlacesRow.func = some f) (hfn : Tryd.pinned.checked.prog.funcs[f]? = some fn) :
    false = Tryd.pinned.checked.prog.looks [] ∧ ∀ (j : Nat) t, fn.params[j]? = some t → Tryd.pinned.checked.prog.wantsStandIn t = false := by
  obtain rfl : f = 8 := Option.some.inj ((show Tryd.prog.funcNamed Rows.pathqPlacesRow.func = some 8 by kernel_rfl).symm.trans hf) |>.symm
  obtain rfl : fn = Tryd.f8 := (Option.some.inj (Tryd.func8.symm.trans hfn)).symm
  refine ⟨by kernel_rfl, fun j t ht => ?_⟩
  rw [Tryd.params8] at ht
  have hm : t ∈ [9] := by simpa using Array.mem_of_getElem? ht
  have hall : ([9].all fun u => !Tryd.prog.wantsStandIn u) = true := by kernel_rfl
  exact (show Tryd.prog.wantsStandIn t = false by simpa using List.all_eq_true.1 hall t hm)
end PathqPlaces

theorem pathqPlaces_holds : Rows.PathqPlacesCardSaid :=
  Claim7.holds_tied_plain_at .later [] _ _ _ _ PathqPlaces.over (fun _ h => by cases h) (by kernel_rfl) (fun _ h => by cases h) pathqPlaces_row_tie rfl ⟨rfl, rfl⟩ (by kernel_rfl) rfl PathqPlaces.plain (by kernel_rfl)
#print axioms pathqPlaces_holds
end Go.Proofs.YtncgkglebpobpaaDoor
