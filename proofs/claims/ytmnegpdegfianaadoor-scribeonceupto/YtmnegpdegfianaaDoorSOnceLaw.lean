/- PROVED: of any items of bulk at most 1048576, ScribeOnce returns true: what is normal is made normal as it is; it is printed as what it was made of; the items read afterwards as they read before. Its conditions: the table of glyph lies as the program's text lays it. -/
import Derived.Test.YtmnegpdegfianaaDoorS7
namespace Go.Proofs.YtmnegpdegfianaaDoor
open Go.ChangeShapes Go.WideShapes Go.ChangeAt Go.RowKit Go.Shelf
namespace ScribeOnce
set_option maxRecDepth 100000 in
set_option maxHeartbeats 4000000 in
theorem walk (V : Value) (l : List IV) {w : World} (I : Hid (ItemsIn V l w)) (F : Hid (∀ x ∈ l, FitU x.1)) (HS : Hid ((l.map fun x => weighI x.1).sum ≤ 1048576)) (ht : Tab w) :
    Calls Tryd.prog 5 #[V] w fun e w' => e = .returned (.bool true) ∧ Below w.heap.size w w' := by
  have HT := hid ht
  have R := hid (rb_of F.out HS.out)
  obtain ⟨ao, cap, rfl, hl, hc⟩ := I.out.1
  clear hc ht F HS
  obtain ⟨m, HM⟩ : ∃ m, Hid (l.map (·.1) = m) := ⟨_, hid rfl⟩
  go_enter Tryd.func5, Tryd.ntmps5
  go_wp2_with fail
  refine (normalR _ l w I R).mono ?_
  rintro e w1 ⟨a1, n1, c1, l1, rfl, hm1, hr1, hb1⟩
  have HM1 := hid hm1
  have HB1 := hid hb1
  have I1 := hid (items_in hr1)
  have R1 : Hid (RB (l1.map (·.1))) := hid (by rw [hm1]; exact R.out.normal)
  clear hm1 hr1 hb1
  go_wp2_with fail
  refine (normalR _ l1 w1 I1 R1).mono ?_
  rintro e w2 ⟨a2, n2, c2, l2, rfl, hm2, hr2, hb2⟩
  have HM2 : Hid (l2.map (·.1) = l1.map (·.1)) := hid (by rw [hm2, HM1.out, S.normal_once])
  have HB2 := hid (HB1.out.trans (hb2.mono HB1.out.size))
  have I2 := hid (items_in hr2)
  have I12 := hid (I1.out.below hb2)
  clear hm2 hr2 hb2
  go_wp2_with fail
  refine (same_any' _ _ l2 l1 w2 true (hid (by rw [HM2.out]; exact S.sameL_self _)) I2 I12).mono ?_
  rintro e w3 ⟨rfl, hb3⟩
  have HB3 := hid (HB2.out.trans (hb3.mono HB2.out.size))
  have I13 := hid (I12.out.below hb3)
  clear hb3 I12 I2
  obtain ⟨s, b, HP⟩ : ∃ s b, Hid (S.printR (l.map (·.1)) = (s, b)) := ⟨_, _, hid rfl⟩
  obtain ⟨t, c, HQ⟩ : ∃ t c, Hid (S.printR (l1.map (·.1)) = (t, c)) := ⟨_, _, hid rfl⟩
  go_wp2_with fail
  refine (printR_any _ l w3 (hid (I.out.below HB3.out)) (hid R.out.fits) (HT.out.below HB3.out) s b HP).mono ?_
  rintro e w4 ⟨rfl, hb4⟩
  have HB4 := hid (HB3.out.trans (hb4.mono HB3.out.size))
  have I14 := hid (I13.out.below hb4)
  clear hb4 I13
  go_wp2_with fail
  refine (printR_any _ l1 w4 I14 (hid R1.out.fits) (HT.out.below HB4.out) t c HQ).mono ?_
  rintro e w5 ⟨rfl, hb5⟩
  have HB5 := hid (HB4.out.trans (hb5.mono HB4.out.size))
  clear hb5 I14
  have HST : Hid (b = 0 → c = 0 → s = t) := hid (by
    rintro rfl rfl
    have h2 := HQ.out
    rw [HM1.out] at h2
    exact S.printR_normal HP.out h2)
  go_wp2_with fail
  refine (alive5_any w5 (HT.out.below HB5.out)).mono ?_
  rintro e w6 ⟨rfl, hb6⟩
  have HB6 := hid (HB5.out.trans (hb6.mono HB5.out.size))
  clear hb6
  by_cases hb : b = 0
  · by_cases hc : c = 0
    · obtain rfl := HST.out hb hc
      subst hb hc
      go_wp2
      go_ret
      exact ⟨rfl, HB6.out⟩
    · subst hb
      have hc' : (c != 0) = true := by simpa using hc
      clear hc
      go_wp2
      go_ret
      exact ⟨rfl, HB6.out⟩
  · have hb' : (b != 0) = true := by simpa using hb
    clear hb
    go_wp2
    go_ret
    exact ⟨rfl, HB6.out⟩
set_option maxRecDepth 100000 in
theorem contract (H : Type) (enc : TypeId × Value → H) (W : World) (base : Nat) (args : Array Value) (ds gs : List (DataW H)) (before : List MemPlace)
    (hval : ∀ (j : Nat) t v, Tryd.f5.params[j]? = some t → args[j]? = some v → Value.okWide Tryd.prog W .any base t v)
    (hW : DataW.Whole enc Tryd.prog Tryd.f5.params.toList Rows.scribeOnceSpec.vars false W args.toList ds gs before) (hL : laidMetH Tryd.prog laidT W)
    (hk : Rows.uptoSmall H (ds ++ gs) = true) :
    Calls Tryd.prog 5 args W fun e W' => ∃ v, e = .returned v ∧ Rows.scribeOnceSpec.post enc Tryd.prog Tryd.f5 false true false false W args v W' := by
  have hW' := hW
  obtain ⟨p, q, hA0, hV, rfl, hfz, hnd⟩ := hW
  have hA : DataW.TrodAll enc Tryd.prog W 0 (fun _ => true) true Tryd.f5.params.toList args.toList ds p := hA0
  rw [Tryd.params5] at hA hval
  obtain ⟨v0, vs0, d0, ds0, p0, q0, hargs, rfl, rfl, h0, r0⟩ := trodAll_cons hA
  obtain ⟨rfl, rfl, rfl⟩ := trodAll_nil r0
  obtain rfl : args = #[v0] := by cases args; simp_all
  obtain ⟨rfl, rfl⟩ := trodVars_none hV
  obtain ⟨l0, i0, f0, s0⟩ := open_itemsV (hval 0 22 v0 rfl rfl) h0
  have hk1 : Rows.uptoBulkAll _ ≤ 1048576 := of_decide_eq_true hk
  simp only [List.append_nil, Rows.uptoBulkAll] at hk1
  replace s0 : (l0.map fun x => weighI x.1).sum ≤ 1048576 := by omega
  replace f0 : ∀ x ∈ l0, FitU x.1 := fun x hx => (f0 x hx).le (by omega)
  have hT := tab_of hL
  clear hA0 hL hk hk1
  try simp only [List.append_nil] at hW'
  refine (walk v0 l0 (hid i0) (hid f0) (hid s0) hT).mono fun e W' ⟨he, hb⟩ => ?_
  subst he
  exact ⟨_, rfl, _, _, _, _, _, _, hW', trodAll_mk1 (shut_bool Tryd.underlying4 _), (trodAll_cons_mk (again_items (by kernel_rfl) (of_decide_eq_true (by kernel_rfl)) h0 (fun x hx => trod_lt h0 x hx) hb) trodAll_mk0), rfl, hb.frame _, fun h => by cases h⟩

theorem reads (os : Os) {H : Type} (enc : TypeId × Value → H) : ∃ places, DataW.whole enc Tryd.prog ((World.doorLaid Tryd.prog 400 os).forCall (fun _ _ => 0) ⟨#[], #[.slice none 0 0], []⟩).memory Tryd.f5.params.toList Rows.scribeOnceSpec.vars false #[Value.slice none 0 0].toList 8 = some ([.nil], [], places) :=
  ⟨[], by kernel_rfl⟩
theorem laid_met (os : Os) (args : Array Value) : laidMet Tryd.prog Rows.scribeOnceUptoRow.laid ((World.doorLaid Tryd.prog 400 os).forCall (fun _ _ => 0) ⟨#[], args, []⟩).memory :=
  laidMet_of_run' 8 (by kernel_rfl) (by kernel_rfl)

set_option maxRecDepth 100000 in
theorem lifted (os : Os) (started : os.Started) (H : Type) (enc : TypeId × Value → H) (F : Stop.Interp) :
    ReturnsInHanded {} Tryd.checked os 5 .any ((Rows.OpenSpec.upto Rows.scribeOnceSpec).preRow enc Tryd.prog Tryd.f5 Rows.scribeOnceUptoRow.domain false Rows.scribeOnceUptoRow.laid) (((Rows.OpenSpec.upto Rows.scribeOnceSpec).at F).post enc Tryd.prog Tryd.f5 false true false false) := by
  obtain ⟨places, hx⟩ := reads os enc
  refine returnsInHanded_of_row (C := Tryd.checked) (s := (Rows.OpenSpec.upto Rows.scribeOnceSpec)) own started (by kernel_rfl) Tryd.func5
    (witness_row_at (enc := enc) (C := Tryd.checked) false (World.doorLaid Tryd.prog 400 os) #[.slice none 0 0] rfl (by kernel_rfl) (by kernel_rfl) (by kernel_rfl)
      (OpenSpec.preRow_of_cond 8 hx (by kernel_rfl) (fun k hk => by cases hk; kernel_rfl) (by kernel_rfl) (laid_met os _))) ?_
  intro W base args ds gs before hval hW _ hcond hsz hL _ _
  exact contract H enc W base args ds gs before hval hW hL (hcond _ rfl)

theorem over : Rows.ScribeOnceUptoSaid :=
  OpenClaim.holds_of_cond 5 Tryd.f5 rfl rfl rfl rfl rfl rfl rfl ⟨rfl, rfl, rfl, rfl, rfl⟩ rfl rfl rfl rfl rfl (by kernel_rfl) Tryd.func5 (by kernel_rfl)
    (of_decide_eq_true (by kernel_rfl)) (by unfold Func.isWrapper; first | (rw [if_pos (by decide +kernel)]; kernel_rfl) | (rw [if_neg (by decide +kernel)]; exact ⟨rfl, rfl⟩))
    (fun os started H enc _ F => by rw [OpenClaim.pre_eq_preRow]; exact lifted os started H enc F)
theorem plain (f : FuncId) (fn : Func) (hf : Tryd.pinned.checked.prog.funcNamed Rows.scribeOnceUptoRow.func = some f) (hfn : Tryd.pinned.checked.prog.funcs[f]? = some fn) :
    false = Tryd.pinned.checked.prog.looks [] ∧ ∀ (j : Nat) t, fn.params[j]? = some t → Tryd.pinned.checked.prog.wantsStandIn t = false := by
  obtain rfl : f = 5 := Option.some.inj ((show Tryd.prog.funcNamed Rows.scribeOnceUptoRow.func = some 5 by kernel_rfl).symm.trans hf) |>.symm
  obtain rfl : fn = Tryd.f5 := (Option.some.inj (Tryd.func5.symm.trans hfn)).symm
  refine ⟨by kernel_rfl, fun j t ht => ?_⟩
  rw [Tryd.params5] at ht
  have hm : t ∈ [22] := by simpa using Array.mem_of_getElem? ht
  have hall : ([22].all fun u => !Tryd.prog.wantsStandIn u) = true := by kernel_rfl
  exact (show Tryd.prog.wantsStandIn t = false by simpa using List.all_eq_true.1 hall t hm)
end ScribeOnce

theorem scribeOnceUpto_holds : Rows.ScribeOnceUptoCardSaid :=
  Claim7.holds_tied_plain_at .later [] _ _ _ _ ScribeOnce.over (fun _ h => by cases h) (by kernel_rfl) (fun _ h => by cases h) scribeOnceUpto_row_tie rfl ⟨rfl, rfl⟩ (by kernel_rfl) rfl ScribeOnce.plain (by kernel_rfl)
#print axioms scribeOnceUpto_holds
end Go.Proofs.YtmnegpdegfianaaDoor
