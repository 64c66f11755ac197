/- PROVED: of any row of items, ParseShape returns true: in a document each item but the root is in an element whose level is less by one, and ends ahead of it; the items read afterwards as they read before. Its conditions: the table of glyph lies as the program's text lays it. -/
import Derived.Test.YtafjffnijonglaaDoorPShape
import Derived.Test.YtafjffnijonglaaDoorPLift
namespace Go.Proofs.YtafjffnijonglaaDoor
open Go.ChangeShapes Go.WideShapes Go.ChangeAt Go.RowKit Go.Shelf
open Go.ChangeMaps (open_string shut_string)
theorem more_drewN {w w' : World} (h : ∃ m, w' = w.drewN m) (n : Nat) : ∃ m, w'.drewN n = w.drewN m := by
  obtain ⟨m, hm⟩ := h
  exact ⟨m + n, by rw [hm, World.drewN_drewN]⟩
section
variable {V : Value} {l : List IV} {w : World}
set_option maxRecDepth 100000 in
set_option maxHeartbeats 4000000 in
theorem end_quiet (I : Hid (ItemsIn V l w)) (k : Int) : Calls Tryd.prog 18 #[V, .int .i64 k] w fun e w' => e = .returned (.int .i64 (P.endP (l.map (·.1)) k)) ∧ ∃ m, w' = w.drewN m := by
  obtain ⟨ao, cap, rfl, hl, hc⟩ := I.out.1
  obtain ⟨r, HR⟩ : ∃ r, Hid (P.endP (l.map (·.1)) k = r) := ⟨_, hid rfl⟩
  rw [HR.out]
  go_enter Tryd.func18, Tryd.ntmps18
  go_wp2_with fail
  refine (hasI_any ⟨ao, cap, rfl⟩ k).mono ?_
  rintro e w1 ⟨rfl, rfl⟩
  by_cases hk : 0 ≤ k ∧ k < (l.length : Int)
  · obtain ⟨k, rfl⟩ : ∃ q : Nat, k = (q : Int) := ⟨k.toNat, by omega⟩
    have hk1 : k < l.length := by omega
    obtain ⟨g, o, rfl, hg, hc⟩ := hc (by rintro rfl; simp at hk1)
    have HE : Hid (P.endP (l.map (·.1)) (k : Int) = (P.endG (l.map (·.1)) l[k].1.level (k + 1) : Int)) := hid (by
      unfold P.endP P.endN
      rw [dif_pos (by simpa using hk)]
      simp [P.endG])
    rw [show decide (0 ≤ (k : Int) ∧ (k : Int) < (l.length : Int)) = true by simp [hk1]]
    have HR2 := hid (HR.out.symm.trans HE.out)
    clear HR
    have HC := hid hc
    have ck : ∀ m, (w1.drewN m).cell? ⟨g, o + k * 5, none⟩ = some (.int .i64 l[k].1.level) := fun m => (hc k hk1).1
    have HCK := hid ck
    clear hc ck HE hk I
    have hk1' : (k : Int) < (l.length : Int) := by omega
    generalize l[k].1.level = z at *
    go_wp2
    go_loopw [5] (fun v5 W => ∃ to : Nat, v5 = .int .i64 (to : Int) ∧ to ≤ l.length ∧ Hid (P.endG (l.map (·.1)) z (k + 1) = P.endG (l.map (·.1)) z to) ∧ Hid (∃ m, W = w1.drewN m)) (fun v5 _ => l.length - (intOf v5).toNat)
    case atStart => exact ⟨k + 1, by go_num, by omega, hid rfl, hid ⟨0, rfl⟩⟩
    case round =>
      obtain ⟨to, rfl, hto, HS, HM⟩ := hrel
      have ck : wr.cell? ⟨g, o + k * 5, none⟩ = some (.int .i64 z) := by obtain ⟨m, hm⟩ := HM.out; rw [hm]; exact HCK.out m
      by_cases h1 : to < l.length
      · have h1' : (to : Int) < (l.length : Int) := by omega
        have ct : wr.cell? ⟨g, o + to * 5, none⟩ = some (.int .i64 l[to].1.level) := by obtain ⟨m, hm⟩ := HM.out; rw [hm]; exact (HC.out to h1).1
        by_cases h2 : z < l[to].1.level
        · have HN : Hid (P.endG (l.map (·.1)) z (k + 1) = P.endG (l.map (·.1)) z (to + 1)) := hid (HS.out.trans (P.endG_yes (by simpa using h1) (by simpa using h2)))
          generalize l[to].1.level = y at *
          clear HS
          go_wp2_with fail
          go_quiet (fail)
          go_wp2
          go_roundw
          case rel => exact ⟨to + 1, by go_num, by omega, HN, hid (more_drewN HM.out _)⟩
          case measure => (simp [intOf]; try omega)
        · have HN : Hid (P.endG (l.map (·.1)) z (k + 1) = to) := hid (HS.out.trans (P.endG_no (by simpa using h1) (by simpa using h2)))
          generalize l[to].1.level = y at *
          clear HS
          go_wp2_with fail
          go_quiet (fail)
          go_wp2
          go_ret
          exact ⟨by rw [HR2.out, HN.out]; rfl, more_drewN HM.out _⟩
      · have h1' : ¬ (to : Int) < (l.length : Int) := by omega
        have HN : Hid (P.endG (l.map (·.1)) z (k + 1) = to) := hid (HS.out.trans (P.endG_end (by simp; omega)))
        clear HS
        go_wp2_with fail
        go_quiet (fail)
        go_wp2
        go_ret
        exact ⟨by rw [HR2.out, HN.out]; rfl, more_drewN HM.out _⟩
  · have HE : Hid (P.endP (l.map (·.1)) k = 0) := hid (by unfold P.endP; rw [dif_neg (by simpa using hk)])
    rw [show decide (0 ≤ k ∧ k < (l.length : Int)) = false by simpa using hk]
    obtain rfl : r = _ := HR.out.symm.trans HE.out
    clear hc hk HR HE
    go_wp2
    go_ret
    exact ⟨rfl, 0, rfl⟩
end
namespace ParseShape
set_option maxRecDepth 100000 in
set_option maxHeartbeats 4000000 in
theorem walk (V : Value) (l : List IV) {w : World} (I : Hid (ItemsIn V l w)) (F : Hid (∀ x ∈ l, FitI x.1)) (ht : Tab w) :
    Calls Tryd.prog 7 #[V] w fun e w' => e = .returned (.bool true) ∧ Below w.heap.size w w' := by
  have HT := hid ht
  clear ht
  obtain ⟨ao, cap, rfl, hl, hc⟩ := I.out.1
  have HCC := hid hc
  clear hc
  obtain ⟨a, b, HR⟩ : ∃ a b, Hid (P.checkP (l.map (·.1)) = (a, b)) := ⟨_, _, hid rfl⟩
  go_enter Tryd.func7, Tryd.ntmps7
  go_wp2_with fail
  refine (check_any I F HT.out a b HR).mono ?_
  rintro e w1 ⟨rfl, hb1⟩
  have HB1 := hid hb1
  clear hb1
  by_cases hb : b = 0
  · subst hb
    have ha : a = 0 := by
      have h := HR.out
      unfold P.checkP at h
      split at h
      · simp only [Prod.mk.injEq] at h; exact h.1.symm
      · exact P.check_zero _ _ _ h
    subst ha
    obtain ⟨d, hne⟩ := P.doc_of HR.out
    have hne' : l ≠ [] := by simpa using hne
    have HD := hid d
    clear d hne HR
    go_wp2
    go_loopw [17] (fun v17 W => ∃ k : Nat, v17 = .int .i64 (k : Int) ∧ k ≤ l.length ∧ Hid (Below w.heap.size w W)) (fun v17 _ => l.length - (intOf v17).toNat)
    case atStart => exact ⟨0, rfl, by omega, HB1⟩
    case round =>
      clear HB1
      obtain ⟨k, rfl, hk, HB⟩ := hrel
      by_cases hlt : k < l.length
      · have hlt' : (k : Int) < (l.length : Int) := by omega
        have I1 := hid (I.out.below HB.out)
        obtain ⟨g, o, rfl, hg, hc⟩ := HCC.out hne'
        have HC := hid hc
        clear hc
        go_wp2_with fail
        refine (parent_any I1 (k : Int)).mono ?_
        rintro e w2 ⟨rfl, hb2⟩
        have HB2 := hid (HB.out.trans (hb2.mono HB.out.size))
        have I2 := hid (I1.out.below hb2)
        clear hb2 I1 HB
        rcases Nat.eq_zero_or_pos k with rfl | hpos
        · obtain ⟨p1, p2⟩ := P.shape_root HD.out (by simpa using hlt)
          rw [show ((0 : Nat) : Int) = 0 from rfl] at *
          rw [p1]
          go_wp2_with fail
          refine (end_any I2 0).mono ?_
          rintro e w3 ⟨rfl, hb3⟩
          have HB3 := hid (HB2.out.trans (hb3.mono HB2.out.size))
          rw [p2]
          simp only [List.length_map]
          clear hb3 p1 p2
          go_wp2
          go_roundw
          case rel => exact ⟨1, rfl, by omega, HB3⟩
          case measure => (simp [intOf]; try omega)
        · obtain ⟨p, hp, p1, p2, p3, p4⟩ := P.shape_next HD.out k (by simpa using hlt) (by omega)
          have hpl : p < l.length := by simpa using hp
          have lk := HD.out.low k (by simpa using hlt)
          have lk1 : 1 ≤ l[k].1.level := by
            obtain ⟨j, rfl⟩ : ∃ q, k = q + 1 := ⟨k - 1, by omega⟩
            have := (HD.out.next j (by simpa using hlt)).1
            simpa using this
          simp only [List.getElem_map] at p2 p3 lk
          rw [p1]
          obtain ⟨x0, x1, _, _, _⟩ := HC.out p hpl
          obtain ⟨y0, _, _, _, _⟩ := HC.out k hlt
          have m0 : ∀ m, (w2.drewN m).cell? ⟨g, o + p * 5, none⟩ = some (.int .i64 (l[k].1.level - 1)) := fun m => by
            rw [← p3]; exact (HB2.out.cell (p := ⟨g, o + p * 5, none⟩) hg).trans x0
          have m1 : ∀ m, (w2.drewN m).cell? ⟨g, o + p * 5 + 1, none⟩ = some (.int .i64 1) := fun m => by
            rw [← p2]; exact (HB2.out.cell (p := ⟨g, o + p * 5 + 1, none⟩) hg).trans x1
          have m2 : ∀ m, (w2.drewN m).cell? ⟨g, o + k * 5, none⟩ = some (.int .i64 l[k].1.level) := fun m => (HB2.out.cell (p := ⟨g, o + k * 5, none⟩) hg).trans y0
          have Q : Hid (∀ m, ItemsIn (.slice (some ⟨g, o, none⟩) l.length cap) l (w2.drewN m)) := hid (fun m => I2.out.below (below_drewN (Below.refl _ _) m))
          have p4' : ¬ P.endP (l.map (·.1)) (p : Int) < P.endP (l.map (·.1)) (k : Int) := by omega
          have hp' : (p : Int) < (l.length : Int) := by omega
          have hp0 : decide ((p : Int) < 0) = false := decide_eq_false (by omega)
          have hk0 : ((k : Int) == 0) = false := beq_eq_false_iff_ne.2 (by omega)
          clear p1 p2 p3 p4 hp x0 x1 y0 hpos HC
          generalize l[k].1.level = z at *
          have n0 := m0 0
          have n1 := m1 0
          have n2 := m2 0
          rw [World.drewN_zero] at n0 n1 n2
          go_wp2_with fail
          go_quiet (first | (go_at_call 18; refine Calls.quiet_of (end_quiet (hid (Q.out _)) _)))
          go_wp2
          go_roundw
          case rel => exact ⟨k + 1, by go_num, by omega, hid (below_drewN HB2.out _)⟩
          case measure => (simp [intOf]; try omega)
      · have hlt' : ¬ (k : Int) < (l.length : Int) := by omega
        have HT1 := hid (HT.out.below HB.out)
        go_wp2_with fail
        refine (aliveP_any _ HT1.out).mono ?_
        rintro e w2 ⟨rfl, hb2⟩
        have HB2 := hid (HB.out.trans (hb2.mono HB.out.size))
        clear hb2
        go_wp2
        go_ret
        exact ⟨rfl, HB2.out⟩
  · have hb' : (b == 0) = false := beq_eq_false_iff_ne.2 hb
    have HT1 := hid (HT.out.below HB1.out)
    clear hb HR HCC
    go_wp2_with fail
    refine (aliveP_any _ HT1.out).mono ?_
    rintro e w2 ⟨rfl, hb2⟩
    have HB2 := hid (HB1.out.trans (hb2.mono HB1.out.size))
    clear hb2
    go_wp2
    go_ret
    exact ⟨rfl, HB2.out⟩

set_option maxRecDepth 100000 in
theorem contract (H : Type) (enc : TypeId × Value → H) (W : World) (base : Nat) (args : Array Value) (ds gs : List (DataW H)) (before : List MemPlace)
    (hval : ∀ (j : Nat) t v, Tryd.f7.params[j]? = some t → args[j]? = some v → Value.okWide Tryd.prog W .any base t v)
    (hW : DataW.Whole enc Tryd.prog Tryd.f7.params.toList Rows.parseShapeSpec.vars false W args.toList ds gs before) (hL : laidMetH Tryd.prog laidT W)
    (hsz : (DataW.weightsEach Tryd.prog (Tryd.f7.params.toList ++ (OpenSpec.ofChange Rows.parseShapeSpec).bare.plain.varTypes Tryd.prog) (ds ++ gs)).all (· ≤ reachBytes) = true) :
    Calls Tryd.prog 7 args W fun e W' => ∃ v, e = .returned v ∧ Rows.parseShapeSpec.post enc Tryd.prog Tryd.f7 false true false false W args v W' := by
  have hW' := hW
  obtain ⟨p, q, hA0, hV, rfl, hfz, hnd⟩ := hW
  have hA : DataW.TrodAll enc Tryd.prog W 0 (fun _ => true) true Tryd.f7.params.toList args.toList ds p := hA0
  rw [Tryd.params7] at hA hval
  rw [Tryd.params7] at hsz
  obtain ⟨v0, vs0, d0, ds0, p0, q0, hargs, rfl, rfl, h0, r0⟩ := trodAll_cons hA
  obtain ⟨rfl, rfl, rfl⟩ := trodAll_nil r0
  obtain rfl : args = #[v0] := by cases args; simp_all
  obtain ⟨rfl, rfl⟩ := trodVars_none hV
  obtain ⟨l0, i0, f0⟩ := open_items (hval 0 41 v0 rfl rfl) h0
  have hT := tab_of hL
  clear hA0 hL hsz
  try simp only [List.append_nil] at hW'
  refine (walk v0 l0 (hid i0) (hid f0) hT).mono fun e W' ⟨he, hb⟩ => ?_
  subst he
  exact ⟨_, rfl, _, _, _, _, _, _, hW', trodAll_mk1 (shut_bool Tryd.underlying4 _), (trodAll_cons_mk (again_items (by kernel_rfl) (of_decide_eq_true (by kernel_rfl)) h0 (fun x hx => trod_lt h0 x hx) hb) trodAll_mk0), rfl, hb.frame _, fun h => by cases h⟩

theorem reads (os : Os) {H : Type} (enc : TypeId × Value → H) : ∃ places, DataW.whole enc Tryd.prog ((World.doorLaid Tryd.prog 400 os).forCall (fun _ _ => 0) ⟨#[], #[.slice none 0 0], []⟩).memory Tryd.f7.params.toList Rows.parseShapeSpec.vars false #[Value.slice none 0 0].toList 8 = some ([.nil], [], places) :=
  ⟨[], by kernel_rfl⟩
theorem laid_met (os : Os) (args : Array Value) : laidMet Tryd.prog Rows.parseShapeRow.laid ((World.doorLaid Tryd.prog 400 os).forCall (fun _ _ => 0) ⟨#[], args, []⟩).memory :=
  laidMet_of_run' 8 (by kernel_rfl) (by kernel_rfl)

set_option maxRecDepth 100000 in
theorem lifted (os : Os) (started : os.Started) (H : Type) (enc : TypeId × Value → H) (F : Stop.Interp) :
    ReturnsInHanded {} Tryd.checked os 7 .any ((OpenSpec.ofChange Rows.parseShapeSpec).preRow enc Tryd.prog Tryd.f7 Rows.parseShapeRow.domain false Rows.parseShapeRow.laid) (((OpenSpec.ofChange Rows.parseShapeSpec).at F).post enc Tryd.prog Tryd.f7 false true false false) := by
  obtain ⟨places, hx⟩ := reads os enc
  refine returnsInHanded_of_row (C := Tryd.checked) (s := (OpenSpec.ofChange Rows.parseShapeSpec)) own started (by kernel_rfl) Tryd.func7
    (witness_row_at (enc := enc) (C := Tryd.checked) false (World.doorLaid Tryd.prog 400 os) #[.slice none 0 0] rfl (by kernel_rfl) (by kernel_rfl) (by kernel_rfl)
      (OpenSpec.preRow_of_cond 8 hx (by kernel_rfl) (fun k hk => by cases hk) (by kernel_rfl) (laid_met os _))) ?_
  intro W base args ds gs before hval hW _ hcond hsz hL _ _
  exact contract H enc W base args ds gs before hval hW hL hsz

theorem over : Rows.ParseShapeSaid :=
  OpenClaim.holds_of_cond 7 Tryd.f7 rfl rfl rfl rfl rfl rfl rfl ⟨rfl, rfl, rfl, rfl, rfl⟩ rfl rfl rfl rfl rfl (by kernel_rfl) Tryd.func7 (by kernel_rfl)
    (of_decide_eq_true (by kernel_rfl)) (by unfold Func.isWrapper; first | (rw [if_pos (by decide +kernel)]; kernel_rfl) | (rw [if_neg (by decide +kernel)]; exact ⟨rfl, rfl⟩))
    (fun os started H enc _ F => by rw [OpenClaim.pre_eq_preRow]; exact lifted os started H enc F)
theorem plain (f : FuncId) (fn : Func) (hf : Tryd.pinned.checked.prog.funcNamed Rows.parseShapeRow.func = some f) (hfn : Tryd.pinned.checked.prog.funcs[f]? = some fn) :
    false = Tryd.pinned.checked.prog.looks [] ∧ ∀ (j : Nat) t, fn.params[j]? = some t → Tryd.pinned.checked.prog.wantsStandIn t = false := by
  obtain rfl : f = 7 := Option.some.inj ((show Tryd.prog.funcNamed Rows.parseShapeRow.func = some 7 by kernel_rfl).symm.trans hf) |>.symm
  obtain rfl : fn = Tryd.f7 := (Option.some.inj (Tryd.func7.symm.trans hfn)).symm
  refine ⟨by kernel_rfl, fun j t ht => ?_⟩
  rw [Tryd.params7] at ht
  have hm : t ∈ [41] := by simpa using Array.mem_of_getElem? ht
  have hall : ([41].all fun u => !Tryd.prog.wantsStandIn u) = true := by kernel_rfl
  exact (show Tryd.prog.wantsStandIn t = false by simpa using List.all_eq_true.1 hall t hm)
end ParseShape

theorem parseShape_holds : Rows.ParseShapeCardSaid :=
  Claim7.holds_tied_plain_at .later [] _ _ _ _ ParseShape.over (fun _ h => by cases h) (by kernel_rfl) (fun _ h => by cases h) parseShape_row_tie rfl ⟨rfl, rfl⟩ (by kernel_rfl) rfl ParseShape.plain (by kernel_rfl)
#print axioms parseShape_holds
end Go.Proofs.YtafjffnijonglaaDoor
