/- PROVED: of any two rows of items of bulk at most 1048576 together, ScribeEqual returns true: two documents are the same just if they are printed as the same text, when they are normal; the items read afterwards as they read before. Its conditions: the table of glyph lies as the program's text lays it. -/
import Derived.Test.YtmnegpdegfianaaDoorS7
namespace Go.Proofs.YtmnegpdegfianaaDoor
open Go.ChangeShapes Go.WideShapes Go.ChangeAt Go.RowKit Go.Shelf
namespace S
open P L G E
theorem equal_print {m n : List Itm} {s t : ByteArray} (h1 : normalP m = m) (h2 : normalP n = n) (h3 : printR m = (s, 0)) (h4 : printR n = (t, 0)) : (s.toList == t.toList) = sameL m n := by
  obtain ⟨c1, rfl⟩ := printR_ok h3
  obtain ⟨c2, rfl⟩ := printR_ok h4
  rw [h1, h2, str_eq, Bool.eq_iff_iff, decide_eq_true_iff, sameL_iff]
  constructor
  · intro h
    have := congrArg (fun b : ByteArray => b.data.toList) h
    exact print_inj c1 c2 h1 h2 this
  · rintro rfl
    rfl
end S
namespace ScribeEqual
set_option maxRecDepth 100000 in
set_option maxHeartbeats 4000000 in
theorem walk (V : Value) (l : List IV) (V' : Value) (l' : List IV) {w : World} (I : Hid (ItemsIn V l w)) (F : Hid (∀ x ∈ l, FitU x.1)) (HS : Hid ((l.map fun x => weighI x.1).sum ≤ 1048576)) (I' : Hid (ItemsIn V' l' w)) (F' : Hid (∀ x ∈ l', FitU x.1)) (HS' : Hid ((l'.map fun x => weighI x.1).sum ≤ 1048576)) (ht : Tab w) :
    Calls Tryd.prog 7 #[V, V'] w fun e w' => e = .returned (.bool true) ∧ Below w.heap.size w w' := by
  have HT := hid ht
  have R := hid (rb_of F.out HS.out)
  have R' := hid (rb_of F'.out HS'.out)
  obtain ⟨ao, cap, rfl, hl, hc⟩ := I.out.1
  obtain ⟨ao', cap', rfl, hl', hc'⟩ := I'.out.1
  clear hc hc' ht F HS F' HS'
  go_enter Tryd.func7, Tryd.ntmps7
  go_wp2_with fail
  refine (normalR _ l w I R).mono ?_
  rintro e w1 ⟨a1, n1, c1, l1, rfl, hm1, hr1, hb1⟩
  have HM1 := hid hm1
  have HB1 := hid hb1
  have I1 := hid (items_in hr1)
  have R1 : Hid (RB (l1.map (·.1))) := hid (by rw [hm1]; exact R.out.normal)
  clear hm1 hr1 hb1
  go_wp2_with fail
  refine (normalR _ l' w1 (hid (I'.out.below HB1.out)) R').mono ?_
  rintro e w2 ⟨a2, n2, c2, l2, rfl, hm2, hr2, hb2⟩
  have HM2 := hid hm2
  have HB2 := hid (HB1.out.trans (hb2.mono HB1.out.size))
  have I2 := hid (items_in hr2)
  have I12 := hid (I1.out.below hb2)
  have R2 : Hid (RB (l2.map (·.1))) := hid (by rw [hm2]; exact R'.out.normal)
  clear hm2 hr2 hb2 I1 I I'
  obtain ⟨s, b, HP⟩ : ∃ s b, Hid (S.printR (l1.map (·.1)) = (s, b)) := ⟨_, _, hid rfl⟩
  obtain ⟨t, c, HQ⟩ : ∃ t c, Hid (S.printR (l2.map (·.1)) = (t, c)) := ⟨_, _, hid rfl⟩
  go_wp2_with fail
  refine (printR_any _ l1 w2 I12 (hid R1.out.fits) (HT.out.below HB2.out) s b HP).mono ?_
  rintro e w3 ⟨rfl, hb3⟩
  have HB3 := hid (HB2.out.trans (hb3.mono HB2.out.size))
  have I13 := hid (I12.out.below hb3)
  have I23 := hid (I2.out.below hb3)
  clear hb3 I12 I2
  go_wp2_with fail
  refine (printR_any _ l2 w3 I23 (hid R2.out.fits) (HT.out.below HB3.out) t c HQ).mono ?_
  rintro e w4 ⟨rfl, hb4⟩
  have HB4 := hid (HB3.out.trans (hb4.mono HB3.out.size))
  have I14 := hid (I13.out.below hb4)
  have I24 := hid (I23.out.below hb4)
  have AL := hid (alive5_any w4 (HT.out.below HB4.out))
  clear hb4 I13 I23
  have HST : Hid (b = 0 → c = 0 → (s.toList == t.toList) = S.sameL (l1.map (·.1)) (l2.map (·.1))) := hid (by
    rintro rfl rfl
    exact S.equal_print (by rw [HM1.out]; exact S.normal_once _) (by rw [HM2.out]; exact S.normal_once _) HP.out HQ.out)
  by_cases hb : b = 0
  · by_cases hc : c = 0
    · have hst := HST.out hb hc
      obtain ⟨r, HR⟩ : ∃ r, Hid (S.sameL (l1.map (·.1)) (l2.map (·.1)) = r) := ⟨_, hid rfl⟩
      rw [HR.out] at hst
      subst hb hc
      clear HST
      go_wp2_with fail
      refine AL.out.mono ?_
      rintro e w5 ⟨rfl, hb5⟩
      have HB5 := hid (HB4.out.trans (hb5.mono HB4.out.size))
      have I15 := hid (I14.out.below hb5)
      have I25 := hid (I24.out.below hb5)
      clear hb5 I14 I24
      go_wp2_with fail
      refine (same_any' _ _ l1 l2 w5 r HR I15 I25).mono ?_
      rintro e w6 ⟨rfl, hb6⟩
      have HB6 := hid (HB5.out.trans (hb6.mono HB5.out.size))
      have I16 := hid (I15.out.below hb6)
      have I26 := hid (I25.out.below hb6)
      clear hb6 I15 I25
      go_wp2_with fail
      refine (same_any' _ _ l1 l2 w6 r HR I16 I26).mono ?_
      rintro e w7 ⟨rfl, hb7⟩
      have HB7 := hid (HB6.out.trans (hb7.mono HB6.out.size))
      have I17 := hid (I16.out.below hb7)
      have I27 := hid (I26.out.below hb7)
      clear hb7 I16 I26
      go_wp2_with fail
      refine (same_any' _ _ l2 l1 w7 r (hid (by rw [S.sameL_comm]; exact HR.out)) I27 I17).mono ?_
      rintro e w8 ⟨rfl, hb8⟩
      have HB8 := hid (HB7.out.trans (hb8.mono HB7.out.size))
      clear hb8
      go_wp2
      go_ret
      exact ⟨rfl, HB8.out⟩
    · subst hb
      have hc' : (c != 0) = true := by simpa using hc
      clear hc HST
      go_wp2_with fail
      refine AL.out.mono ?_
      rintro e w5 ⟨rfl, hb5⟩
      have HB5 := hid (HB4.out.trans (hb5.mono HB4.out.size))
      clear hb5
      go_wp2
      go_ret
      exact ⟨rfl, HB5.out⟩
  · have hb' : (b != 0) = true := by simpa using hb
    clear hb HST
    go_wp2_with fail
    refine AL.out.mono ?_
    rintro e w5 ⟨rfl, hb5⟩
    have HB5 := hid (HB4.out.trans (hb5.mono HB4.out.size))
    clear hb5
    go_wp2
    go_ret
    exact ⟨rfl, HB5.out⟩
set_option maxRecDepth 100000 in
theorem contract (H : Type) (enc : TypeId × Value → H) (W : World) (base : Nat) (args : Array Value) (ds gs : List (DataW H)) (before : List MemPlace)
    (hval : ∀ (j : Nat) t v, Tryd.f7.params[j]? = some t → args[j]? = some v → Value.okWide Tryd.prog W .any base t v)
    (hW : DataW.Whole enc Tryd.prog Tryd.f7.params.toList Rows.scribeEqualSpec.vars false W args.toList ds gs before) (hL : laidMetH Tryd.prog laidT W)
    (hk : Rows.uptoSmall H (ds ++ gs) = true) :
    Calls Tryd.prog 7 args W fun e W' => ∃ v, e = .returned v ∧ Rows.scribeEqualSpec.post enc Tryd.prog Tryd.f7 false true false false W args v W' := by
  have hW' := hW
  obtain ⟨p, q, hA0, hV, rfl, hfz, hnd⟩ := hW
  have hA : DataW.TrodAll enc Tryd.prog W 0 (fun _ => true) true Tryd.f7.params.toList args.toList ds p := hA0
  rw [Tryd.params7] at hA hval
  obtain ⟨v0, vs0, d0, ds0, p0, q0, hargs, rfl, rfl, h0, r0⟩ := trodAll_cons hA
  obtain ⟨v1, vs1, d1, ds1, p1, q1, rfl, rfl, rfl, h1, r1⟩ := trodAll_cons r0
  obtain ⟨rfl, rfl, rfl⟩ := trodAll_nil r1
  obtain rfl : args = #[v0, v1] := by cases args; simp_all
  obtain ⟨rfl, rfl⟩ := trodVars_none hV
  obtain ⟨l0, i0, f0, s0⟩ := open_itemsV (hval 0 22 v0 rfl rfl) h0
  obtain ⟨l1, i1, f1, s1⟩ := open_itemsV (hval 1 22 v1 rfl rfl) h1
  have hk1 : Rows.uptoBulkAll _ ≤ 1048576 := of_decide_eq_true hk
  simp only [List.append_nil, Rows.uptoBulkAll] at hk1
  replace s0 : (l0.map fun x => weighI x.1).sum ≤ 1048576 := by omega
  replace f0 : ∀ x ∈ l0, FitU x.1 := fun x hx => (f0 x hx).le (by omega)
  replace s1 : (l1.map fun x => weighI x.1).sum ≤ 1048576 := by omega
  replace f1 : ∀ x ∈ l1, FitU x.1 := fun x hx => (f1 x hx).le (by omega)
  have hT := tab_of hL
  clear hA0 hL hk hk1
  try simp only [List.append_nil] at hW'
  refine (walk v0 l0 v1 l1 (hid i0) (hid f0) (hid s0) (hid i1) (hid f1) (hid s1) hT).mono fun e W' ⟨he, hb⟩ => ?_
  subst he
  exact ⟨_, rfl, _, _, _, _, _, _, hW', trodAll_mk1 (shut_bool Tryd.underlying4 _), (trodAll_cons_mk (again_items (by kernel_rfl) (of_decide_eq_true (by kernel_rfl)) h0 (fun x hx => trod_lt h0 x hx) hb) (trodAll_cons_mk (again_items (by kernel_rfl) (of_decide_eq_true (by kernel_rfl)) h1 (fun x hx => trod_lt h1 x hx) hb) trodAll_mk0)), rfl, hb.frame _, fun h => by cases h⟩

theorem reads (os : Os) {H : Type} (enc : TypeId × Value → H) : ∃ places, DataW.whole enc Tryd.prog ((World.doorLaid Tryd.prog 400 os).forCall (fun _ _ => 0) ⟨#[], #[.slice none 0 0, .slice none 0 0], []⟩).memory Tryd.f7.params.toList Rows.scribeEqualSpec.vars false #[Value.slice none 0 0, Value.slice none 0 0].toList 8 = some ([.nil, .nil], [], places) :=
  ⟨[], by kernel_rfl⟩
theorem laid_met (os : Os) (args : Array Value) : laidMet Tryd.prog Rows.scribeEqualUptoRow.laid ((World.doorLaid Tryd.prog 400 os).forCall (fun _ _ => 0) ⟨#[], args, []⟩).memory :=
  laidMet_of_run' 8 (by kernel_rfl) (by kernel_rfl)

set_option maxRecDepth 100000 in
theorem lifted (os : Os) (started : os.Started) (H : Type) (enc : TypeId × Value → H) (F : Stop.Interp) :
    ReturnsInHanded {} Tryd.checked os 7 .any ((Rows.OpenSpec.upto Rows.scribeEqualSpec).preRow enc Tryd.prog Tryd.f7 Rows.scribeEqualUptoRow.domain false Rows.scribeEqualUptoRow.laid) (((Rows.OpenSpec.upto Rows.scribeEqualSpec).at F).post enc Tryd.prog Tryd.f7 false true false false) := by
  obtain ⟨places, hx⟩ := reads os enc
  refine returnsInHanded_of_row (C := Tryd.checked) (s := (Rows.OpenSpec.upto Rows.scribeEqualSpec)) own started (by kernel_rfl) Tryd.func7
    (witness_row_at (enc := enc) (C := Tryd.checked) false (World.doorLaid Tryd.prog 400 os) #[.slice none 0 0, .slice none 0 0] rfl (by kernel_rfl) (by kernel_rfl) (by kernel_rfl)
      (OpenSpec.preRow_of_cond 8 hx (by kernel_rfl) (fun k hk => by cases hk; kernel_rfl) (by kernel_rfl) (laid_met os _))) ?_
  intro W base args ds gs before hval hW _ hcond hsz hL _ _
  exact contract H enc W base args ds gs before hval hW hL (hcond _ rfl)

theorem over : Rows.ScribeEqualUptoSaid :=
  OpenClaim.holds_of_cond 7 Tryd.f7 rfl rfl rfl rfl rfl rfl rfl ⟨rfl, rfl, rfl, rfl, rfl⟩ rfl rfl rfl rfl rfl (by kernel_rfl) Tryd.func7 (by kernel_rfl)
    (of_decide_eq_true (by kernel_rfl)) (by unfold Func.isWrapper; first | (rw [if_pos (by decide +kernel)]; kernel_rfl) | (rw [if_neg (by decide +kernel)]; exact ⟨rfl, rfl⟩))
    (fun os started H enc _ F => by rw [OpenClaim.pre_eq_preRow]; exact lifted os started H enc F)
theorem plain (f : FuncId) (fn : Func) (hf : Tryd.pinned.checked.prog.funcNamed Rows.scribeEqualUptoRow.func = some f) (hfn : Tryd.pinned.checked.prog.funcs[f]? = some fn) :
    false = Tryd.pinned.checked.prog.looks [] ∧ ∀ (j : Nat) t, fn.params[j]? = some t → Tryd.pinned.checked.prog.wantsStandIn t = false := by
  obtain rfl : f = 7 := Option.some.inj ((show Tryd.prog.funcNamed Rows.scribeEqualUptoRow.func = some 7 by kernel_rfl).symm.trans hf) |>.symm
  obtain rfl : fn = Tryd.f7 := (Option.some.inj (Tryd.func7.symm.trans hfn)).symm
  refine ⟨by kernel_rfl, fun j t ht => ?_⟩
  rw [Tryd.params7] at ht
  have hm : t ∈ [22, 22] := by simpa using Array.mem_of_getElem? ht
  have hall : ([22, 22].all fun u => !Tryd.prog.wantsStandIn u) = true := by kernel_rfl
  exact (show Tryd.prog.wantsStandIn t = false by simpa using List.all_eq_true.1 hall t hm)
end ScribeEqual

theorem scribeEqualUpto_holds : Rows.ScribeEqualUptoCardSaid :=
  Claim7.holds_tied_plain_at .later [] _ _ _ _ ScribeEqual.over (fun _ h => by cases h) (by kernel_rfl) (fun _ h => by cases h) scribeEqualUpto_row_tie rfl ⟨rfl, rfl⟩ (by kernel_rfl) rfl ScribeEqual.plain (by kernel_rfl)
#print axioms scribeEqualUpto_holds
end Go.Proofs.YtmnegpdegfianaaDoor
