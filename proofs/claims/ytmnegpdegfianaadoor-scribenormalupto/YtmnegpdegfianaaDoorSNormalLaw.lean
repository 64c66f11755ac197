/- PROVED: of any two rows of items of bulk at most 1048576 together, ScribeNormal returns true: any items are made normal as the document says; whether two rows are the same is told so; the items read afterwards as they read before. Its conditions: the table of glyph lies as the program's text lays it. -/
import Derived.Test.YtmnegpdegfianaaDoorS7
import Derived.Test.YtmnegpdegfianaaDoorSRSame
import Derived.Test.YtmnegpdegfianaaDoorSRNormal
namespace Go.Proofs.YtmnegpdegfianaaDoor
open Go.ChangeShapes Go.WideShapes Go.ChangeAt Go.RowKit Go.Shelf
namespace ScribeNormal
set_option maxRecDepth 100000 in
set_option maxHeartbeats 4000000 in
theorem walk (V : Value) (l : List IV) (V' : Value) (l' : List IV) {w : World} (I : Hid (ItemsIn V l w)) (F : Hid (∀ x ∈ l, FitU x.1)) (HS : Hid ((l.map fun x => weighI x.1).sum ≤ 1048576)) (I' : Hid (ItemsIn V' l' w)) (_ : Hid (∀ x ∈ l', FitU x.1)) (_ : Hid ((l'.map fun x => weighI x.1).sum ≤ 1048576)) (ht : Tab w) :
    Calls Tryd.prog 4 #[V, V'] w fun e w' => e = .returned (.bool true) ∧ Below w.heap.size w w' := by
  have HT := hid ht
  have R := hid (rb_of F.out HS.out)
  obtain ⟨ao, cap, rfl, hl, hc⟩ := I.out.1
  obtain ⟨ao', cap', rfl, hl', hc'⟩ := I'.out.1
  clear hc hc' ht F HS
  go_enter Tryd.func4, Tryd.ntmps4
  go_wp2_with fail
  refine (normalR _ l w I R).mono ?_
  rintro e w1 ⟨a1, n1, c1, l1, rfl, hm1, hr1, hb1⟩
  have HM1 := hid hm1
  have HB1 := hid hb1
  have I1 := hid (items_in hr1)
  clear hm1 hr1 hb1
  go_wp2_with fail
  refine (alive5_any w1 (HT.out.below HB1.out)).mono ?_
  rintro e w2 ⟨rfl, hb2⟩
  have HB2 := hid (HB1.out.trans (hb2.mono HB1.out.size))
  have I12 := hid (I1.out.below hb2)
  clear hb2 I1
  go_wp2_with fail
  refine (rnormal_any _ l w2 (hid (I.out.below HB2.out)) (by have := R.out.len; rw [List.length_map] at this; omega) (by have := R.out.txt; omega)).mono ?_
  rintro e w3 ⟨a3, n3, c3, rfl, l3, hm3, i3, hb3⟩
  have HM3 : Hid (l1.map (·.1) = l3.map (·.1)) := hid (by rw [HM1.out, hm3])
  have HB3 := hid (HB2.out.trans (hb3.mono HB2.out.size))
  have I13 := hid (I12.out.below hb3)
  have I3 := hid i3
  clear hm3 i3 hb3 I12
  go_wp2_with fail
  refine (sameI_gen _ _ l1 l3 w3 true (hid (by rw [HM3.out]; exact S.sameL_self _)) I13 I3).mono ?_
  rintro e w4 ⟨rfl, hb4⟩
  have HB4 := hid (HB3.out.trans (hb4.mono HB3.out.size))
  clear hb4 I13 I3
  obtain ⟨r, HR⟩ : ∃ r, Hid (S.sameL (l.map (·.1)) (l'.map (·.1)) = r) := ⟨_, hid rfl⟩
  go_wp2_with fail
  refine (same_any' _ _ l l' w4 r HR (hid (I.out.below HB4.out)) (hid (I'.out.below HB4.out))).mono ?_
  rintro e w5 ⟨rfl, hb5⟩
  have HB5 := hid (HB4.out.trans (hb5.mono HB4.out.size))
  clear hb5
  go_wp2_with fail
  refine (sameI_gen _ _ l l' w5 r HR (hid (I.out.below HB5.out)) (hid (I'.out.below HB5.out))).mono ?_
  rintro e w6 ⟨rfl, hb6⟩
  have HB6 := hid (HB5.out.trans (hb6.mono HB5.out.size))
  clear hb6
  go_wp2_with fail
  refine (same_any' _ _ l l w6 true (hid (S.sameL_self _)) (hid (I.out.below HB6.out)) (hid (I.out.below HB6.out))).mono ?_
  rintro e w7 ⟨rfl, hb7⟩
  have HB7 := hid (HB6.out.trans (hb7.mono HB6.out.size))
  clear hb7
  go_wp2
  go_ret
  exact ⟨rfl, HB7.out⟩
set_option maxRecDepth 100000 in
theorem contract (H : Type) (enc : TypeId × Value → H) (W : World) (base : Nat) (args : Array Value) (ds gs : List (DataW H)) (before : List MemPlace)
    (hval : ∀ (j : Nat) t v, Tryd.f4.params[j]? = some t → args[j]? = some v → Value.okWide Tryd.prog W .any base t v)
    (hW : DataW.Whole enc Tryd.prog Tryd.f4.params.toList Rows.scribeNormalSpec.vars false W args.toList ds gs before) (hL : laidMetH Tryd.prog laidT W)
    (hk : Rows.uptoSmall H (ds ++ gs) = true) :
    Calls Tryd.prog 4 args W fun e W' => ∃ v, e = .returned v ∧ Rows.scribeNormalSpec.post enc Tryd.prog Tryd.f4 false true false false W args v W' := by
  have hW' := hW
  obtain ⟨p, q, hA0, hV, rfl, hfz, hnd⟩ := hW
  have hA : DataW.TrodAll enc Tryd.prog W 0 (fun _ => true) true Tryd.f4.params.toList args.toList ds p := hA0
  rw [Tryd.params4] at hA hval
  obtain ⟨v0, vs0, d0, ds0, p0, q0, hargs, rfl, rfl, h0, r0⟩ := trodAll_cons hA
  obtain ⟨v1, vs1, d1, ds1, p1, q1, rfl, rfl, rfl, h1, r1⟩ := trodAll_cons r0
  obtain ⟨rfl, rfl, rfl⟩ := trodAll_nil r1
  obtain rfl : args = #[v0, v1] := by cases args; simp_all
  obtain ⟨rfl, rfl⟩ := trodVars_none hV
  obtain ⟨l0, i0, f0, s0⟩ := open_itemsV (hval 0 22 v0 rfl rfl) h0
  obtain ⟨l1, i1, f1, s1⟩ := open_itemsV (hval 1 22 v1 rfl rfl) h1
  have hk1 : Rows.uptoBulkAll _ ≤ 1048576 := of_decide_eq_true hk
  simp only [List.append_nil, Rows.uptoBulkAll] at hk1
  replace s0 : (l0.map fun x => weighI x.1).sum ≤ 1048576 := by omega
  replace f0 : ∀ x ∈ l0, FitU x.1 := fun x hx => (f0 x hx).le (by omega)
  replace s1 : (l1.map fun x => weighI x.1).sum ≤ 1048576 := by omega
  replace f1 : ∀ x ∈ l1, FitU x.1 := fun x hx => (f1 x hx).le (by omega)
  have hT := tab_of hL
  clear hA0 hL hk hk1
  try simp only [List.append_nil] at hW'
  refine (walk v0 l0 v1 l1 (hid i0) (hid f0) (hid s0) (hid i1) (hid f1) (hid s1) hT).mono fun e W' ⟨he, hb⟩ => ?_
  subst he
  exact ⟨_, rfl, _, _, _, _, _, _, hW', trodAll_mk1 (shut_bool Tryd.underlying4 _), (trodAll_cons_mk (again_items (by kernel_rfl) (of_decide_eq_true (by kernel_rfl)) h0 (fun x hx => trod_lt h0 x hx) hb) (trodAll_cons_mk (again_items (by kernel_rfl) (of_decide_eq_true (by kernel_rfl)) h1 (fun x hx => trod_lt h1 x hx) hb) trodAll_mk0)), rfl, hb.frame _, fun h => by cases h⟩

theorem reads (os : Os) {H : Type} (enc : TypeId × Value → H) : ∃ places, DataW.whole enc Tryd.prog ((World.doorLaid Tryd.prog 400 os).forCall (fun _ _ => 0) ⟨#[], #[.slice none 0 0, .slice none 0 0], []⟩).memory Tryd.f4.params.toList Rows.scribeNormalSpec.vars false #[Value.slice none 0 0, Value.slice none 0 0].toList 8 = some ([.nil, .nil], [], places) :=
  ⟨[], by kernel_rfl⟩
theorem laid_met (os : Os) (args : Array Value) : laidMet Tryd.prog Rows.scribeNormalUptoRow.laid ((World.doorLaid Tryd.prog 400 os).forCall (fun _ _ => 0) ⟨#[], args, []⟩).memory :=
  laidMet_of_run' 8 (by kernel_rfl) (by kernel_rfl)

set_option maxRecDepth 100000 in
theorem lifted (os : Os) (started : os.Started) (H : Type) (enc : TypeId × Value → H) (F : Stop.Interp) :
    ReturnsInHanded {} Tryd.checked os 4 .any ((Rows.OpenSpec.upto Rows.scribeNormalSpec).preRow enc Tryd.prog Tryd.f4 Rows.scribeNormalUptoRow.domain false Rows.scribeNormalUptoRow.laid) (((Rows.OpenSpec.upto Rows.scribeNormalSpec).at F).post enc Tryd.prog Tryd.f4 false true false false) := by
  obtain ⟨places, hx⟩ := reads os enc
  refine returnsInHanded_of_row (C := Tryd.checked) (s := (Rows.OpenSpec.upto Rows.scribeNormalSpec)) own started (by kernel_rfl) Tryd.func4
    (witness_row_at (enc := enc) (C := Tryd.checked) false (World.doorLaid Tryd.prog 400 os) #[.slice none 0 0, .slice none 0 0] rfl (by kernel_rfl) (by kernel_rfl) (by kernel_rfl)
      (OpenSpec.preRow_of_cond 8 hx (by kernel_rfl) (fun k hk => by cases hk; kernel_rfl) (by kernel_rfl) (laid_met os _))) ?_
  intro W base args ds gs before hval hW _ hcond hsz hL _ _
  exact contract H enc W base args ds gs before hval hW hL (hcond _ rfl)

theorem over : Rows.ScribeNormalUptoSaid :=
  OpenClaim.holds_of_cond 4 Tryd.f4 rfl rfl rfl rfl rfl rfl rfl ⟨rfl, rfl, rfl, rfl, rfl⟩ rfl rfl rfl rfl rfl (by kernel_rfl) Tryd.func4 (by kernel_rfl)
    (of_decide_eq_true (by kernel_rfl)) (by unfold Func.isWrapper; first | (rw [if_pos (by decide +kernel)]; kernel_rfl) | (rw [if_neg (by decide +kernel)]; exact ⟨rfl, rfl⟩))
    (fun os started H enc _ F => by rw [OpenClaim.pre_eq_preRow]; exact lifted os started H enc F)
theorem plain (f : FuncId) (fn : Func) (hf : Tryd.pinned.checked.prog.funcNamed Rows.scribeNormalUptoRow.func = some f) (hfn : Tryd.pinned.checked.prog.funcs[f]? = some fn) :
    false = Tryd.pinned.checked.prog.looks [] ∧ ∀ (j : Nat) t, fn.params[j]? = some t → Tryd.pinned.checked.prog.wantsStandIn t = false := by
  obtain rfl : f = 4 := Option.some.inj ((show Tryd.prog.funcNamed Rows.scribeNormalUptoRow.func = some 4 by kernel_rfl).symm.trans hf) |>.symm
  obtain rfl : fn = Tryd.f4 := (Option.some.inj (Tryd.func4.symm.trans hfn)).symm
  refine ⟨by kernel_rfl, fun j t ht => ?_⟩
  rw [Tryd.params4] at ht
  have hm : t ∈ [22, 22] := by simpa using Array.mem_of_getElem? ht
  have hall : ([22, 22].all fun u => !Tryd.prog.wantsStandIn u) = true := by kernel_rfl
  exact (show Tryd.prog.wantsStandIn t = false by simpa using List.all_eq_true.1 hall t hm)
end ScribeNormal

theorem scribeNormalUpto_holds : Rows.ScribeNormalUptoCardSaid :=
  Claim7.holds_tied_plain_at .later [] _ _ _ _ ScribeNormal.over (fun _ h => by cases h) (by kernel_rfl) (fun _ h => by cases h) scribeNormalUpto_row_tie rfl ⟨rfl, rfl⟩ (by kernel_rfl) rfl ScribeNormal.plain (by kernel_rfl)
#print axioms scribeNormalUpto_holds
end Go.Proofs.YtmnegpdegfianaaDoor
