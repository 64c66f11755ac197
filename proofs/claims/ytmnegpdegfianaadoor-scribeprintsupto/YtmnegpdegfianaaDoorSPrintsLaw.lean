/- PROVED: of any row of items of bulk at most 1048576, ScribePrints returns true: any items are printed as the document says, or refused; the items read afterwards as they read before. Its conditions: the table of glyph lies as the program's text lays it. -/
import Derived.Test.YtmnegpdegfianaaDoorS7
import Derived.Test.YtmnegpdegfianaaDoorSRPrint
namespace Go.Proofs.YtmnegpdegfianaaDoor
open Go.ChangeShapes Go.WideShapes Go.ChangeAt Go.RowKit Go.Shelf
theorem rprint_no (V : Value) (l : List IV) (w : World) (I : Hid (ItemsIn V l w)) (F : Hid (∀ x ∈ l, FitU x.1)) (a b : Int) (HC : Hid (P.checkP (l.map (·.1)) = (a, b))) (hb : b ≠ 0) :
    Calls Tryd.prog 10 #[V] w fun e w' => e = .returned (.tuple #[.string ⟨#[]⟩, .int .i64 b]) ∧ Below w.heap.size w w' := by
  obtain ⟨ao, cap, rfl, hl, hc⟩ := I.out.1
  have CH := hid (rcheck_any I F a b HC)
  have hb' : (b != 0) = true := by simpa using hb
  clear hc
  go_enter Tryd.func10, Tryd.ntmps10
  go_wp2_with fail
  refine CH.out.mono ?_
  rintro e w1 ⟨rfl, hb1⟩
  have HB1 := hid hb1
  clear hb1 CH
  go_wp2
  go_ret2
  exact ⟨rfl, HB1.out⟩
theorem rprintR_any (V : Value) (l : List IV) (w : World) (I : Hid (ItemsIn V l w)) (F : Hid (∀ x ∈ l, FitU x.1)) (hts : (S.texts (l.map (·.1))).length ≤ 1048576) (s : ByteArray) (b : Int) (HP : Hid (S.printR (l.map (·.1)) = (s, b))) :
    Calls Tryd.prog 10 #[V] w fun e w' => e = .returned (.tuple #[.string s, .int .i64 b]) ∧ Below w.heap.size w w' := by
  by_cases hb : b = 0
  · subst hb
    obtain ⟨c1, rfl⟩ := S.printR_ok HP.out
    exact rprint_ok V l w I F (hid c1) hts
  · obtain ⟨rfl, c1⟩ := S.printR_no HP.out hb
    exact rprint_no V l w I F _ b (hid c1) hb
namespace ScribePrints
set_option maxRecDepth 100000 in
set_option maxHeartbeats 4000000 in
theorem walk (V : Value) (l : List IV) {w : World} (I : Hid (ItemsIn V l w)) (F : Hid (∀ x ∈ l, FitU x.1)) (HS : Hid ((l.map fun x => weighI x.1).sum ≤ 1048576)) (ht : Tab w) :
    Calls Tryd.prog 3 #[V] w fun e w' => e = .returned (.bool true) ∧ Below w.heap.size w w' := by
  have HT := hid ht
  have R := hid (rb_of F.out HS.out)
  obtain ⟨ao, cap, rfl, hl, hc⟩ := I.out.1
  clear hc ht HS
  obtain ⟨s, b, HP⟩ : ∃ s b, Hid (S.printR (l.map (·.1)) = (s, b)) := ⟨_, _, hid rfl⟩
  go_enter Tryd.func3, Tryd.ntmps3
  go_wp2_with fail
  refine (printR_any _ l w I (hid R.out.fits) HT.out s b HP).mono ?_
  rintro e w1 ⟨rfl, hb1⟩
  have HB1 := hid hb1
  have I1 := hid (I.out.below hb1)
  clear hb1 I
  go_wp2_with fail
  refine (rprintR_any _ l w1 I1 F R.out.txt s b HP).mono ?_
  rintro e w2 ⟨rfl, hb2⟩
  have HB2 := hid (HB1.out.trans (hb2.mono HB1.out.size))
  have AL := hid (alive5_any w2 (HT.out.below HB2.out))
  clear hb2
  go_wp2_with fail
  refine AL.out.mono ?_
  rintro e w3 ⟨rfl, hb3⟩
  have HB3 := hid (HB2.out.trans (hb3.mono HB2.out.size))
  have hss : (s.toList == s.toList) = true := by simp
  clear hb3 AL
  go_wp2
  go_ret
  exact ⟨rfl, HB3.out⟩
set_option maxRecDepth 100000 in
theorem contract (H : Type) (enc : TypeId × Value → H) (W : World) (base : Nat) (args : Array Value) (ds gs : List (DataW H)) (before : List MemPlace)
    (hval : ∀ (j : Nat) t v, Tryd.f3.params[j]? = some t → args[j]? = some v → Value.okWide Tryd.prog W .any base t v)
    (hW : DataW.Whole enc Tryd.prog Tryd.f3.params.toList Rows.scribePrintsSpec.vars false W args.toList ds gs before) (hL : laidMetH Tryd.prog laidT W)
    (hk : Rows.uptoSmall H (ds ++ gs) = true) :
    Calls Tryd.prog 3 args W fun e W' => ∃ v, e = .returned v ∧ Rows.scribePrintsSpec.post enc Tryd.prog Tryd.f3 false true false false W args v W' := by
  have hW' := hW
  obtain ⟨p, q, hA0, hV, rfl, hfz, hnd⟩ := hW
  have hA : DataW.TrodAll enc Tryd.prog W 0 (fun _ => true) true Tryd.f3.params.toList args.toList ds p := hA0
  rw [Tryd.params3] at hA hval
  obtain ⟨v0, vs0, d0, ds0, p0, q0, hargs, rfl, rfl, h0, r0⟩ := trodAll_cons hA
  obtain ⟨rfl, rfl, rfl⟩ := trodAll_nil r0
  obtain rfl : args = #[v0] := by cases args; simp_all
  obtain ⟨rfl, rfl⟩ := trodVars_none hV
  obtain ⟨l0, i0, f0, s0⟩ := open_itemsV (hval 0 22 v0 rfl rfl) h0
  have hk1 : Rows.uptoBulkAll _ ≤ 1048576 := of_decide_eq_true hk
  simp only [List.append_nil, Rows.uptoBulkAll] at hk1
  replace s0 : (l0.map fun x => weighI x.1).sum ≤ 1048576 := by omega
  replace f0 : ∀ x ∈ l0, FitU x.1 := fun x hx => (f0 x hx).le (by omega)
  have hT := tab_of hL
  clear hA0 hL hk hk1
  try simp only [List.append_nil] at hW'
  refine (walk v0 l0 (hid i0) (hid f0) (hid s0) hT).mono fun e W' ⟨he, hb⟩ => ?_
  subst he
  exact ⟨_, rfl, _, _, _, _, _, _, hW', trodAll_mk1 (shut_bool Tryd.underlying4 _), (trodAll_cons_mk (again_items (by kernel_rfl) (of_decide_eq_true (by kernel_rfl)) h0 (fun x hx => trod_lt h0 x hx) hb) trodAll_mk0), rfl, hb.frame _, fun h => by cases h⟩

theorem reads (os : Os) {H : Type} (enc : TypeId × Value → H) : ∃ places, DataW.whole enc Tryd.prog ((World.doorLaid Tryd.prog 400 os).forCall (fun _ _ => 0) ⟨#[], #[.slice none 0 0], []⟩).memory Tryd.f3.params.toList Rows.scribePrintsSpec.vars false #[Value.slice none 0 0].toList 8 = some ([.nil], [], places) :=
  ⟨[], by kernel_rfl⟩
theorem laid_met (os : Os) (args : Array Value) : laidMet Tryd.prog Rows.scribePrintsUptoRow.laid ((World.doorLaid Tryd.prog 400 os).forCall (fun _ _ => 0) ⟨#[], args, []⟩).memory :=
  laidMet_of_run' 8 (by kernel_rfl) (by kernel_rfl)

set_option maxRecDepth 100000 in
theorem lifted (os : Os) (started : os.Started) (H : Type) (enc : TypeId × Value → H) (F : Stop.Interp) :
    ReturnsInHanded {} Tryd.checked os 3 .any ((Rows.OpenSpec.upto Rows.scribePrintsSpec).preRow enc Tryd.prog Tryd.f3 Rows.scribePrintsUptoRow.domain false Rows.scribePrintsUptoRow.laid) (((Rows.OpenSpec.upto Rows.scribePrintsSpec).at F).post enc Tryd.prog Tryd.f3 false true false false) := by
  obtain ⟨places, hx⟩ := reads os enc
  refine returnsInHanded_of_row (C := Tryd.checked) (s := (Rows.OpenSpec.upto Rows.scribePrintsSpec)) own started (by kernel_rfl) Tryd.func3
    (witness_row_at (enc := enc) (C := Tryd.checked) false (World.doorLaid Tryd.prog 400 os) #[.slice none 0 0] rfl (by kernel_rfl) (by kernel_rfl) (by kernel_rfl)
      (OpenSpec.preRow_of_cond 8 hx (by kernel_rfl) (fun k hk => by cases hk; kernel_rfl) (by kernel_rfl) (laid_met os _))) ?_
  intro W base args ds gs before hval hW _ hcond hsz hL _ _
  exact contract H enc W base args ds gs before hval hW hL (hcond _ rfl)

theorem over : Rows.ScribePrintsUptoSaid :=
  OpenClaim.holds_of_cond 3 Tryd.f3 rfl rfl rfl rfl rfl rfl rfl ⟨rfl, rfl, rfl, rfl, rfl⟩ rfl rfl rfl rfl rfl (by kernel_rfl) Tryd.func3 (by kernel_rfl)
    (of_decide_eq_true (by kernel_rfl)) (by unfold Func.isWrapper; first | (rw [if_pos (by decide +kernel)]; kernel_rfl) | (rw [if_neg (by decide +kernel)]; exact ⟨rfl, rfl⟩))
    (fun os started H enc _ F => by rw [OpenClaim.pre_eq_preRow]; exact lifted os started H enc F)
theorem plain (f : FuncId) (fn : Func) (hf : Tryd.pinned.checked.prog.funcNamed Rows.scribePrintsUptoRow.func = some f) (hfn : Tryd.pinned.checked.prog.funcs[f]? = some fn) :
    false = Tryd.pinned.checked.prog.looks [] ∧ ∀ (j : Nat) t, fn.params[j]? = some t → Tryd.pinned.checked.prog.wantsStandIn t = false := by
  obtain rfl : f = 3 := Option.some.inj ((show Tryd.prog.funcNamed Rows.scribePrintsUptoRow.func = some 3 by kernel_rfl).symm.trans hf) |>.symm
  obtain rfl : fn = Tryd.f3 := (Option.some.inj (Tryd.func3.symm.trans hfn)).symm
  refine ⟨by kernel_rfl, fun j t ht => ?_⟩
  rw [Tryd.params3] at ht
  have hm : t ∈ [22] := by simpa using Array.mem_of_getElem? ht
  have hall : ([22].all fun u => !Tryd.prog.wantsStandIn u) = true := by kernel_rfl
  exact (show Tryd.prog.wantsStandIn t = false by simpa using List.all_eq_true.1 hall t hm)
end ScribePrints

theorem scribePrintsUpto_holds : Rows.ScribePrintsUptoCardSaid :=
  Claim7.holds_tied_plain_at .later [] _ _ _ _ ScribePrints.over (fun _ h => by cases h) (by kernel_rfl) (fun _ h => by cases h) scribePrintsUpto_row_tie rfl ⟨rfl, rfl⟩ (by kernel_rfl) rfl ScribePrints.plain (by kernel_rfl)
#print axioms scribePrintsUpto_holds
end Go.Proofs.YtmnegpdegfianaaDoor
