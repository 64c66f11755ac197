/- PROVED: of any items ScribeBack returns true: what is printed of a document is read as that, made normal, unless a text of that is too long; the items read afterwards as they read before. Its conditions: the table of glyph lies as the program's text lays it. -/
import Derived.Test.YtmnegpdegfianaaGreatDoorSBack8
namespace Go.Proofs.YtmnegpdegfianaaGreatDoor
open Go.ChangeShapes Go.WideShapes Go.ChangeAt Go.RowKit Go.Shelf
namespace ScribeBack
set_option maxRecDepth 100000 in
set_option maxHeartbeats 4000000 in
theorem walk (V : Value) (l : List IV) {w : World} (I : Hid (ItemsIn V l w)) (F : Hid (∀ x ∈ l, FitI x.1)) (ht : Tab w) :
    Calls Tryz.prog 3 #[V] w fun e w' => e = .returned (.bool true) ∧ Below w.heap.size w w' := by
  have HT := hid ht
  have HF : Hid (∀ x ∈ l, FitC x.1) := hid (fun x hx => F.out x hx)
  obtain ⟨ao, cap, rfl, hl, hc⟩ := I.out.1
  clear hc ht F
  obtain ⟨a, b, HR⟩ : ∃ a b, Hid (P.checkP (l.map (·.1)) = (a, b)) := ⟨_, _, hid rfl⟩
  by_cases hb : b = 0
  · subst hb
    have HC : Hid (P.checkP (l.map (·.1)) = (0, 0)) := hid (S.check_zero (by rw [HR.out]))
    clear HR
    have PR := hid (print_ok _ l w I HF HT.out HC)
    obtain ⟨s, HSS⟩ : ∃ s, Hid (S.bA (S.printF (S.normalP (l.map (·.1))) []) = s) := ⟨_, hid rfl⟩
    rw [HSS.out] at PR
    have HSZ : Hid (s.size ≤ 140737488351232) := hid (by
      rw [← HSS.out, S.bA_size]
      have := S.print_short HC.out
      omega)
    go_enter Tryz.func3, Tryz.ntmps3
    go_wp2_with fail
    refine PR.out.mono ?_
    rintro e w1 ⟨rfl, hb1⟩
    have HB1 := hid hb1
    clear hb1 PR
    go_wp2_with fail
    refine (normalD _ l w1 (hid (I.out.below HB1.out)) HC).mono ?_
    rintro e w2 ⟨a2, n2, c2, l2, rfl, hm2, hr2, hb2⟩
    have HM2 := hid hm2
    have HB2 := hid (HB1.out.trans (hb2.mono HB1.out.size))
    have I2 := hid (items_in hr2)
    clear hm2 hr2 hb2
    obtain ⟨res, HRES⟩ : ∃ res, Hid (P.parseP s = res) := ⟨_, hid rfl⟩
    go_wp2_with fail
    refine (parse_any s w2 (HT.out.below HB2.out) HSZ.out res HRES).mono ?_
    rintro e w3 ⟨hb3, hres⟩
    have HB3 := hid (HB2.out.trans (hb3.mono HB2.out.size))
    have I23 := hid (I2.out.below hb3)
    have AL := hid (HT.out.below HB3.out)
    have HFT : Hid (∀ x ∈ l2, x.1.text.size ≤ 9223372036854775807) := hid (fun x hx => by
      have h1 : x.1 ∈ S.normalP (l.map (·.1)) := by rw [← HM2.out]; exact List.mem_map.2 ⟨x, hx, rfl⟩
      have h2 := (S.normal_texts _ h1).1
      obtain ⟨_, b2, b3⟩ := S.doc_bound HC.out
      have h3 := S.texts_bound (B := 1500) (fun x hx => (b3 x hx).1)
      have h4 : (l.map (·.1)).length * 1500 ≤ 1000 * 1500 := Nat.mul_le_mul_right _ b2
      omega)
    have HPB := hid (S.print_back HC.out)
    rw [HSS.out, HRES.out, ← HM2.out] at HPB
    clear hb3 I2
    rcases hres with ⟨q, e0, rfl, he0, rfl⟩ | ⟨l3, V3, rfl, rfl, hr3⟩
    · have HLG : Hid ((l2.map (·.1)).any S.longB = true) := hid (by
        cases h : (l2.map (·.1)).any S.longB with
        | true => rfl
        | false => have := HPB.out.1 h; cases this)
      obtain rfl : e0 = 34 := by
        obtain ⟨q', h⟩ := HPB.out.2 HLG.out
        simp only [Except.error.injEq, Prod.mk.injEq] at h
        exact h.2
      clear HPB he0
      go_wp2_with fail
      refine (long_any _ l2 w3 I23 true HLG HFT).mono ?_
      rintro e w4 ⟨rfl, hb4⟩
      have HB4 := hid (HB3.out.trans (hb4.mono HB3.out.size))
      clear hb4
      go_wp2_with fail
      refine (alive5_any w4 (HT.out.below HB4.out)).mono ?_
      rintro e w5 ⟨rfl, hb5⟩
      have HB5 := hid (HB4.out.trans (hb5.mono HB4.out.size))
      clear hb5
      go_wp2
      go_ret
      exact ⟨rfl, HB5.out⟩
    · have HLG : Hid ((l2.map (·.1)).any S.longB = false) := hid (by
        cases h : (l2.map (·.1)).any S.longB with
        | false => rfl
        | true => obtain ⟨q, h2⟩ := HPB.out.2 h; cases h2)
      have HE3 : Hid (l3.map (·.1) = l2.map (·.1)) := hid (by
        have := HPB.out.1 HLG.out
        simpa using this)
      obtain ⟨v3a, v3n, v3c, rfl⟩ : ∃ a n c, V3 = .slice a n c := by
        rcases hr3.1.2 with ⟨rfl, _⟩ | ⟨g, cap, cur, rfl, _⟩
        · exact ⟨_, _, _, rfl⟩
        · exact ⟨_, _, _, rfl⟩
      have I33 := hid (items_in hr3)
      clear HPB hr3
      go_wp2_with fail
      refine (long_any _ l2 w3 I23 false HLG HFT).mono ?_
      rintro e w4 ⟨rfl, hb4⟩
      have HB4 := hid (HB3.out.trans (hb4.mono HB3.out.size))
      have I24 := hid (I23.out.below hb4)
      have I34 := hid (I33.out.below hb4)
      clear hb4 I23 I33
      go_wp2_with fail
      refine (alive5_any w4 (HT.out.below HB4.out)).mono ?_
      rintro e w5 ⟨rfl, hb5⟩
      have HB5 := hid (HB4.out.trans (hb5.mono HB4.out.size))
      have I25 := hid (I24.out.below hb5)
      have I35 := hid (I34.out.below hb5)
      clear hb5 I24 I34
      go_wp2_with fail
      refine (same_any' _ _ l3 l2 w5 true (hid (by rw [HE3.out]; exact S.sameL_self _)) I35 I25).mono ?_
      rintro e w6 ⟨rfl, hb6⟩
      have HB6 := hid (HB5.out.trans (hb6.mono HB5.out.size))
      clear hb6
      go_wp2
      go_ret
      exact ⟨rfl, HB6.out⟩
  · have PR := hid (print_no _ l w I HF HT.out a b HR hb)
    have hb' : (b != 0) = true := by simpa using hb
    clear hb
    go_enter Tryz.func3, Tryz.ntmps3
    go_wp2_with fail
    refine PR.out.mono ?_
    rintro e w1 ⟨rfl, hb1⟩
    have HB1 := hid hb1
    clear hb1 PR
    go_wp2_with fail
    refine (alive5_any w1 (HT.out.below HB1.out)).mono ?_
    rintro e w2 ⟨rfl, hb2⟩
    have HB2 := hid (HB1.out.trans (hb2.mono HB1.out.size))
    clear hb2
    go_wp2
    go_ret
    exact ⟨rfl, HB2.out⟩
set_option maxRecDepth 100000 in
theorem contract (H : Type) (enc : TypeId × Value → H) (W : World) (base : Nat) (args : Array Value) (ds gs : List (DataW H)) (before : List MemPlace)
    (hval : ∀ (j : Nat) t v, Tryz.f3.params[j]? = some t → args[j]? = some v → Value.okWide Tryz.prog W .any base t v)
    (hW : DataW.Whole enc Tryz.prog Tryz.f3.params.toList Rows.scribeBackSpec.vars false W args.toList ds gs before) (hL : laidMetH Tryz.prog laidT W)
    (hsz : (DataW.weightsEach Tryz.prog (Tryz.f3.params.toList ++ (OpenSpec.ofChange Rows.scribeBackSpec).bare.plain.varTypes Tryz.prog) (ds ++ gs)).all (· ≤ reachBytes) = true) :
    Calls Tryz.prog 3 args W fun e W' => ∃ v, e = .returned v ∧ Rows.scribeBackSpec.post enc Tryz.prog Tryz.f3 false true false false W args v W' := by
  have hW' := hW
  obtain ⟨p, q, hA0, hV, rfl, hfz, hnd⟩ := hW
  have hA : DataW.TrodAll enc Tryz.prog W 0 (fun _ => true) true Tryz.f3.params.toList args.toList ds p := hA0
  rw [Tryz.params3] at hA hval
  rw [Tryz.params3] at hsz
  obtain ⟨v0, vs0, d0, ds0, p0, q0, hargs, rfl, rfl, h0, r0⟩ := trodAll_cons hA
  obtain ⟨rfl, rfl, rfl⟩ := trodAll_nil r0
  obtain rfl : args = #[v0] := by cases args; simp_all
  obtain ⟨rfl, rfl⟩ := trodVars_none hV
  obtain ⟨l0, i0, f0⟩ := open_items (hval 0 22 v0 rfl rfl) h0
  have hT := tab_of hL
  clear hA0 hL hsz
  try simp only [List.append_nil] at hW'
  refine (walk v0 l0 (hid i0) (hid f0) hT).mono fun e W' ⟨he, hb⟩ => ?_
  subst he
  exact ⟨_, rfl, _, _, _, _, _, _, hW', trodAll_mk1 (shut_bool Tryz.underlying4 _), (trodAll_cons_mk (again_items (by kernel_rfl) (of_decide_eq_true (by kernel_rfl)) h0 (fun x hx => trod_lt h0 x hx) hb) trodAll_mk0), rfl, hb.frame _, fun h => by cases h⟩

theorem reads (os : Os) {H : Type} (enc : TypeId × Value → H) : ∃ places, DataW.whole enc Tryz.prog ((World.doorLaid Tryz.prog 400 os).forCall (fun _ _ => 0) ⟨#[], #[.slice none 0 0], []⟩).memory Tryz.f3.params.toList Rows.scribeBackSpec.vars false #[Value.slice none 0 0].toList 8 = some ([.nil], [], places) :=
  ⟨[], by kernel_rfl⟩
theorem laid_met (os : Os) (args : Array Value) : laidMet Tryz.prog Rows.scribeBackRow.laid ((World.doorLaid Tryz.prog 400 os).forCall (fun _ _ => 0) ⟨#[], args, []⟩).memory :=
  laidMet_of_run' 8 (by kernel_rfl) (by kernel_rfl)

set_option maxRecDepth 100000 in
theorem lifted (os : Os) (started : os.Started) (H : Type) (enc : TypeId × Value → H) (F : Stop.Interp) :
    ReturnsInHanded {} Tryz.checked os 3 .any ((OpenSpec.ofChange Rows.scribeBackSpec).preRow enc Tryz.prog Tryz.f3 Rows.scribeBackRow.domain false Rows.scribeBackRow.laid) (((OpenSpec.ofChange Rows.scribeBackSpec).at F).post enc Tryz.prog Tryz.f3 false true false false) := by
  obtain ⟨places, hx⟩ := reads os enc
  refine returnsInHanded_of_row (C := Tryz.checked) (s := (OpenSpec.ofChange Rows.scribeBackSpec)) own started (by kernel_rfl) Tryz.func3
    (witness_row_at (enc := enc) (C := Tryz.checked) false (World.doorLaid Tryz.prog 400 os) #[.slice none 0 0] rfl (by kernel_rfl) (by kernel_rfl) (by kernel_rfl)
      (OpenSpec.preRow_of_cond 8 hx (by kernel_rfl) (fun k hk => by cases hk) (by kernel_rfl) (laid_met os _))) ?_
  intro W base args ds gs before hval hW _ hcond hsz hL _ _
  exact contract H enc W base args ds gs before hval hW hL hsz

theorem over : Rows.ScribeBackSaid :=
  OpenClaim.holds_of_cond 3 Tryz.f3 rfl rfl rfl rfl rfl rfl rfl ⟨rfl, rfl, rfl, rfl, rfl⟩ rfl rfl rfl rfl rfl (by kernel_rfl) Tryz.func3 (by kernel_rfl)
    (of_decide_eq_true (by kernel_rfl)) (by unfold Func.isWrapper; first | (rw [if_pos (by decide +kernel)]; kernel_rfl) | (rw [if_neg (by decide +kernel)]; exact ⟨rfl, rfl⟩))
    (fun os started H enc _ F => by rw [OpenClaim.pre_eq_preRow]; exact lifted os started H enc F)
theorem plain (f : FuncId) (fn : Func) (hf : Tryz.pinned.checked.prog.funcNamed Rows.scribeBackRow.func = some f) (hfn : Tryz.pinned.checked.prog.funcs[f]? = some fn) :
    false = Tryz.pinned.checked.prog.looks [] ∧ ∀ (j : Nat) t, fn.params[j]? = some t → Tryz.pinned.checked.prog.wantsStandIn t = false := by
  obtain rfl : f = 3 := Option.some.inj ((show Tryz.prog.funcNamed Rows.scribeBackRow.func = some 3 by kernel_rfl).symm.trans hf) |>.symm
  obtain rfl : fn = Tryz.f3 := (Option.some.inj (Tryz.func3.symm.trans hfn)).symm
  refine ⟨by kernel_rfl, fun j t ht => ?_⟩
  rw [Tryz.params3] at ht
  have hm : t ∈ [22] := by simpa using Array.mem_of_getElem? ht
  have hall : ([22].all fun u => !Tryz.prog.wantsStandIn u) = true := by kernel_rfl
  exact (show Tryz.prog.wantsStandIn t = false by simpa using List.all_eq_true.1 hall t hm)
end ScribeBack

theorem scribeBack_holds : Rows.ScribeBackCardSaid :=
  Claim7.holds_tied_plain_at .later [] _ _ _ _ ScribeBack.over (fun _ h => by cases h) (by kernel_rfl) (fun _ h => by cases h) scribeBack_row_tie rfl ⟨rfl, rfl⟩ (by kernel_rfl) rfl ScribeBack.plain (by kernel_rfl)
#print axioms scribeBack_holds
end Go.Proofs.YtmnegpdegfianaaGreatDoor
