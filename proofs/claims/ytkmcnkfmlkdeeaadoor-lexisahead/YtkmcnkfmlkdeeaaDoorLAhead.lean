/- PROVED: of any two texts and any place, LexisAhead returns true: a token is not told otherwise for what stands behind the next tag's beginning; the texts read afterwards as they read before. Its conditions: the table of glyph lies as the program's text lays it. -/
import Derived.Test.YtkmcnkfmlkdeeaaDoorLSame
import Derived.Test.YtkmcnkfmlkdeeaaDoorLFacts4
import Derived.Test.YtkmcnkfmlkdeeaaDoorGLaid
import Derived.Test.YtkmcnkfmlkdeeaaDoorTie
import Derived.Test.YtkmcnkfmlkdeeaaDoorCards
import Derived.SevenTiedAt
import Derived.Deep.DeepHandedRow
namespace Go.Proofs.YtkmcnkfmlkdeeaaDoor
open Go.ChangeShapes Go.WideShapes Go.ChangeAt Go.RowKit Go.Shelf
open Go.ChangeMaps (open_string shut_string)
theorem L.oneP_in {s : ByteArray} {z : Int} {t : L.Tok} {n : Nat} (h : L.oneP s z = .ok (t, n)) : ∃ i : Nat, z = (i : Int) ∧ i < s.size ∧ L.oneN s i = .ok (t, n) := by
  unfold L.oneP at h
  split at h
  · cases h
  · rename_i h0
    exact ⟨z.toNat, by omega, by omega, h⟩
namespace LexisAhead
set_option maxRecDepth 100000 in
set_option maxHeartbeats 4000000 in
theorem walk (s : ByteArray) (z : Int) (m : ByteArray) (hz : s.size ≤ 140737488351232) (hz2 : m.size ≤ 140737488351232) (w : World) (ht : Tab w) :
    Calls Tryd.prog 6 #[.string s, .int .i64 z, .string m] w fun e w' => e = .returned (.bool true) ∧ Below w.heap.size w w' := by
  have HT := hid ht
  clear ht
  by_cases hbig : 20000 < s.size
  · have hb' : (20000 : Int) < (s.size : Int) := by omega
    go_enter Tryd.func6, Tryd.ntmps6
    go_wp2_with fail
    refine (alive_any w HT.out).mono ?_
    rintro e w2 ⟨rfl, hb2⟩
    have HB2 := hid hb2
    clear hb2
    go_wp2
    go_ret
    exact ⟨rfl, HB2.out⟩
  have hs' : ¬ (20000 : Int) < (s.size : Int) := by omega
  by_cases hbig2 : 20000 < m.size
  · have hb' : (20000 : Int) < (m.size : Int) := by omega
    go_enter Tryd.func6, Tryd.ntmps6
    go_wp2_with fail
    refine (alive_any w HT.out).mono ?_
    rintro e w2 ⟨rfl, hb2⟩
    have HB2 := hid hb2
    clear hb2
    go_wp2
    go_ret
    exact ⟨rfl, HB2.out⟩
  have hm' : ¬ (20000 : Int) < (m.size : Int) := by omega
  go_enter Tryd.func6, Tryd.ntmps6
  go_wp2_with fail
  refine Calls.mono (one_any s z w HT.out hz) ?_
  rintro e w1 ⟨hb1, ⟨q, e0, h1, h2, rfl⟩ | ⟨t, n, v, h1, rfl, h3⟩⟩
  · have b1 : (e0 != 0) = true := bne_iff_ne.2 h2
    have HT1 := hid (HT.out.below (hb1.alloc hb1.size (.cells #[.int .i64 0, .int .i64 0, .string ⟨#[]⟩, .string ⟨#[]⟩, .slice none 0 0] 25)))
    have HB1 := hid (hb1.alloc hb1.size (.cells #[.int .i64 0, .int .i64 0, .string ⟨#[]⟩, .string ⟨#[]⟩, .slice none 0 0] 25))
    clear hb1 h1 h2
    unfold zeroT
    go_wp2_with fail
    refine (alive_any _ HT1.out).mono ?_
    rintro e w2 ⟨rfl, hb2⟩
    have HB2 := hid (HB1.out.trans (hb2.mono HB1.out.size))
    clear hb2
    go_wp2
    go_ret
    exact ⟨rfl, HB2.out⟩
  · obtain ⟨i, rfl, hi, ho⟩ := L.oneP_in h1
    obtain ⟨ao, cp, rfl⟩ := att_len h3
    have hl20 : t.attrs.length ≤ 20 := (L.one_may hi ho).1.2.2.2.2.2.1
    by_cases hk : t.kind = 4
    · obtain ⟨kd, ps, nm, tx, ats⟩ := t
      dsimp only at *
      subst hk
      have HB1 := hid (hb1.alloc hb1.size (.cells #[.int .i64 4, .int .i64 (ps : Int), .string nm, .string tx, .slice ao ats.length cp] 25))
      have HT1 := hid (HT.out.below HB1.out)
      clear hb1 h1 h3 ho
      unfold tokV
      go_wp2_with fail
      refine (alive_any _ HT1.out).mono ?_
      rintro e w2 ⟨rfl, hb2⟩
      have HB2 := hid (HB1.out.trans (hb2.mono HB1.out.size))
      clear hb2
      go_wp2
      go_ret
      exact ⟨rfl, HB2.out⟩
    · have HO : Hid (L.oneP (s ++ m) (i : Int) = .ok (t, n)) := hid (by
        have hi2 : i < (s ++ m).size := by rw [L.app_size]; omega
        rw [oneP_nat hi2]
        exact L.one_app hi ho hk)
      have b4 : (t.kind == 4) = false := beq_eq_false_iff_ne.2 hk
      obtain ⟨kd, ps, nm, tx, ats⟩ := t
      dsimp only at *
      have HB1 := hid (hb1.alloc hb1.size (.cells #[.int .i64 kd, .int .i64 (ps : Int), .string nm, .string tx, .slice ao ats.length cp] 25))
      have HT1 := hid (HT.out.below HB1.out)
      have H3 := hid h3
      have s1 : w.heap.size ≤ w1.heap.size := hb1.size
      have hsum : (s.size : Int) + (m.size : Int) ≤ 9223372036854775807 := by omega
      clear hb1 h1 h3 ho hk
      unfold tokV
      go_wp2_with fail
      refine Calls.mono (one_any (s ++ m) (i : Int) _ HT1.out (by rw [L.app_size]; omega)) ?_
      rw [HO.out]
      rintro e w2 ⟨hb2, ⟨q, e0, h1, _⟩ | ⟨t', n', v', h1, rfl, h4⟩⟩
      · cases h1
      simp only [Except.ok.injEq, Prod.mk.injEq] at h1
      obtain ⟨rfl, rfl⟩ := h1
      obtain ⟨ao', cp', rfl⟩ := att_len h4
      dsimp only at *
      have hsz : w1.heap.size < w2.heap.size := by have := hb2.size; simp at this; omega
      have HB2 := hid ((HB1.out.trans (hb2.mono (by simp; omega))).alloc (by omega) (.cells #[.int .i64 kd, .int .i64 (ps : Int), .string nm, .string tx, .slice ao' ats.length cp'] 25))
      have HT2 := hid (HT.out.below HB2.out)
      have H3' := hid (World.ownsRow.alloc (row_below (World.ownsRow.alloc H3.out (.cells #[.int .i64 kd, .int .i64 (ps : Int), .string nm, .string tx, .slice ao ats.length cp] 25)) hb2) (.cells #[.int .i64 kd, .int .i64 (ps : Int), .string nm, .string tx, .slice ao' ats.length cp'] 25))
      have H4' := hid (World.ownsRow.alloc h4 (.cells #[.int .i64 kd, .int .i64 (ps : Int), .string nm, .string tx, .slice ao' ats.length cp'] 25))
      have X : Hid (∀ q x, #[Value.int .i64 kd, .int .i64 (ps : Int), .string nm, .string tx, .slice ao ats.length cp][q]? = some x → (w2.alloc (.cells #[.int .i64 kd, .int .i64 (ps : Int), .string nm, .string tx, .slice ao' ats.length cp'] 25)).cell? ⟨w1.heap.size, q, none⟩ = some x) := hid (fun q x hx => by
        rw [World.cell?_alloc_past _ _ _ hsz, hb2.cell (p := ⟨w1.heap.size, q, none⟩) (by simp), cell_of_row _ w1.heap.size q _ _ _ (heap_alloc_new w1 _)]
        exact hx)
      have Y : Hid (∀ q x, #[Value.int .i64 kd, .int .i64 (ps : Int), .string nm, .string tx, .slice ao' ats.length cp'][q]? = some x → (w2.alloc (.cells #[.int .i64 kd, .int .i64 (ps : Int), .string nm, .string tx, .slice ao' ats.length cp'] 25)).cell? ⟨w2.heap.size, q, none⟩ = some x) := hid (fun q x hx => by
        rw [cell_of_row _ w2.heap.size q _ _ _ (heap_alloc_new w2 _)]
        exact hx)
      have hw2 : w2.heap.size < (w2.alloc (.cells #[.int .i64 kd, .int .i64 (ps : Int), .string nm, .string tx, .slice ao' ats.length cp'] 25)).heap.size := by simp
      clear hb2 h4 H3 HB1 HT1
      unfold tokV
      dsimp only
      go_wp2_with fail
      refine (alive_any _ HT2.out).mono ?_
      rintro e w3 ⟨rfl, hb3⟩
      have x0 := (hb3.cell (p := ⟨w1.heap.size, 0, none⟩) (by show w1.heap.size < _; omega)).trans (X.out 0 _ rfl)
      have x1 := (hb3.cell (p := ⟨w1.heap.size, 1, none⟩) (by show w1.heap.size < _; omega)).trans (X.out 1 _ rfl)
      have x2 := (hb3.cell (p := ⟨w1.heap.size, 2, none⟩) (by show w1.heap.size < _; omega)).trans (X.out 2 _ rfl)
      have x3 := (hb3.cell (p := ⟨w1.heap.size, 3, none⟩) (by show w1.heap.size < _; omega)).trans (X.out 3 _ rfl)
      have x4 := (hb3.cell (p := ⟨w1.heap.size, 4, none⟩) (by show w1.heap.size < _; omega)).trans (X.out 4 _ rfl)
      have y0 := (hb3.cell (p := ⟨w2.heap.size, 0, none⟩) hw2).trans (Y.out 0 _ rfl)
      have y1 := (hb3.cell (p := ⟨w2.heap.size, 1, none⟩) hw2).trans (Y.out 1 _ rfl)
      have y2 := (hb3.cell (p := ⟨w2.heap.size, 2, none⟩) hw2).trans (Y.out 2 _ rfl)
      have y3 := (hb3.cell (p := ⟨w2.heap.size, 3, none⟩) hw2).trans (Y.out 3 _ rfl)
      have y4 := (hb3.cell (p := ⟨w2.heap.size, 4, none⟩) hw2).trans (Y.out 4 _ rfl)
      have H5 := hid (row_below H3'.out hb3)
      have H6 := hid (row_below H4'.out hb3)
      have HB3 := hid (HB2.out.trans (hb3.mono HB2.out.size))
      clear hb3 hw2
      go_wp2_with fail
      refine Calls.mono (same_any ⟨kd, ps, nm, tx, ats⟩ _ _ w3 _ _ H5.out H6.out hl20) ?_
      rintro e w4 ⟨rfl, hb4⟩
      have HB4 := hid (HB3.out.trans (hb4.mono HB3.out.size))
      clear hb4
      go_wp2
      go_ret
      exact ⟨rfl, HB4.out⟩

set_option maxRecDepth 100000 in
theorem contract (H : Type) (enc : TypeId × Value → H) (W : World) (base : Nat) (args : Array Value) (ds gs : List (DataW H)) (before : List MemPlace)
    (hval : ∀ (j : Nat) t v, Tryd.f6.params[j]? = some t → args[j]? = some v → Value.okWide Tryd.prog W .any base t v)
    (hW : DataW.Whole enc Tryd.prog Tryd.f6.params.toList Rows.lexisAheadSpec.vars false W args.toList ds gs before) (hL : laidMetH Tryd.prog laidT W)
    (hsz : (DataW.weightsEach Tryd.prog (Tryd.f6.params.toList ++ (OpenSpec.ofChange Rows.lexisAheadSpec).bare.plain.varTypes Tryd.prog) (ds ++ gs)).all (· ≤ reachBytes) = true) :
    Calls Tryd.prog 6 args W fun e W' => ∃ v, e = .returned v ∧ Rows.lexisAheadSpec.post enc Tryd.prog Tryd.f6 false true false false W args v W' := by
  have hW' := hW
  obtain ⟨p, q, hA0, hV, rfl, hfz, hnd⟩ := hW
  have hA : DataW.TrodAll enc Tryd.prog W 0 (fun _ => true) true Tryd.f6.params.toList args.toList ds p := hA0
  rw [Tryd.params6] at hA hval
  rw [Tryd.params6] at hsz
  obtain ⟨v0, vs0, d0, ds0, p0, q0, hargs, rfl, rfl, h0, r0⟩ := trodAll_cons hA
  obtain ⟨v1, vs1, d1, ds1, p1, q1, rfl, rfl, rfl, h1, r1⟩ := trodAll_cons r0
  obtain ⟨v2, vs2, d2, ds2, p2, q2, rfl, rfl, rfl, h2, r2⟩ := trodAll_cons r1
  obtain ⟨rfl, rfl, rfl⟩ := trodAll_nil r2
  obtain rfl : args = #[v0, v1, v2] := by cases args; simp_all
  obtain ⟨rfl, rfl⟩ := trodVars_none hV
  obtain ⟨a0, rfl, rfl, rfl, w0⟩ := open_string Tryd.underlying9 (hval 0 9 v0 rfl rfl) h0
  obtain ⟨a1, rfl, rfl, rfl, w1⟩ := open_int Tryd.underlying3 (hval 1 3 v1 rfl rfl) h1
  obtain ⟨a2, rfl, rfl, rfl, w2⟩ := open_string Tryd.underlying9 (hval 2 9 v2 rfl rfl) h2
  have z0 : a0.size ≤ 140737488351232 := by simpa [reachBytes] using sized_string hsz (j := 0) (t := 9) rfl rfl
  have z2 : a2.size ≤ 140737488351232 := by simpa [reachBytes] using sized_string hsz (j := 2) (t := 9) rfl rfl
  have hT := tab_of hL
  clear hA0 hL hsz
  simp only [List.append_nil] at hW'
  refine (walk a0 a1 a2 z0 z2 W hT).mono fun e W' ⟨he, hb⟩ => ?_
  subst he
  exact ⟨_, rfl, _, _, _, [], [], [], hW', trodAll_mk1 (shut_bool Tryd.underlying4 _), (trodAll_cons_mk (shut_string Tryd.underlying9 w0) (trodAll_cons_mk (shut_int Tryd.underlying3 w1) (trodAll_cons_mk (shut_string Tryd.underlying9 w2) trodAll_mk0))), rfl, hb.frame _, fun h => by cases h⟩

theorem reads (os : Os) {H : Type} (enc : TypeId × Value → H) : ∃ places, DataW.whole enc Tryd.prog ((World.doorLaid Tryd.prog 400 os).forCall (fun _ _ => 0) ⟨#[], #[.string ⟨#[]⟩, .int .i64 0, .string ⟨#[]⟩], []⟩).memory Tryd.f6.params.toList Rows.lexisAheadSpec.vars false #[Value.string ⟨#[]⟩, Value.int .i64 0, Value.string ⟨#[]⟩].toList 8 = some ([.lit (.string []), .lit (.int .i64 0), .lit (.string [])], [], places) :=
  ⟨[], by kernel_rfl⟩
theorem laid_met (os : Os) (args : Array Value) : laidMet Tryd.prog Rows.lexisAheadRow.laid ((World.doorLaid Tryd.prog 400 os).forCall (fun _ _ => 0) ⟨#[], args, []⟩).memory :=
  laidMet_of_run' 8 (by kernel_rfl) (by kernel_rfl)

set_option maxRecDepth 100000 in
theorem lifted (os : Os) (started : os.Started) (H : Type) (enc : TypeId × Value → H) (F : Stop.Interp) :
    ReturnsInHanded {} Tryd.checked os 6 .any ((OpenSpec.ofChange Rows.lexisAheadSpec).preRow enc Tryd.prog Tryd.f6 Rows.lexisAheadRow.domain false Rows.lexisAheadRow.laid) (((OpenSpec.ofChange Rows.lexisAheadSpec).at F).post enc Tryd.prog Tryd.f6 false true false false) := by
  obtain ⟨places, hx⟩ := reads os enc
  refine returnsInHanded_of_row (C := Tryd.checked) (s := (OpenSpec.ofChange Rows.lexisAheadSpec)) own started (by kernel_rfl) Tryd.func6
    (witness_row_at (enc := enc) (C := Tryd.checked) false (World.doorLaid Tryd.prog 400 os) #[.string ⟨#[]⟩, .int .i64 0, .string ⟨#[]⟩] rfl (by kernel_rfl) (by kernel_rfl) (by kernel_rfl)
      (OpenSpec.preRow_of_cond 8 hx (by kernel_rfl) (fun k hk => by cases hk) (by kernel_rfl) (laid_met os _))) ?_
  intro W base args ds gs before hval hW _ hcond hsz hL _ _
  exact contract H enc W base args ds gs before hval hW hL hsz

theorem over : Rows.LexisAheadSaid :=
  OpenClaim.holds_of_cond 6 Tryd.f6 rfl rfl rfl rfl rfl rfl rfl ⟨rfl, rfl, rfl, rfl, rfl⟩ rfl rfl rfl rfl rfl (by kernel_rfl) Tryd.func6 (by kernel_rfl)
    (of_decide_eq_true (by kernel_rfl)) (by unfold Func.isWrapper; first | (rw [if_pos (by decide +kernel)]; kernel_rfl) | (rw [if_neg (by decide +kernel)]; exact ⟨rfl, rfl⟩))
    (fun os started H enc _ F => by rw [OpenClaim.pre_eq_preRow]; exact lifted os started H enc F)
theorem plain (f : FuncId) (fn : Func) (hf : Tryd.pinned.checked.prog.funcNamed Rows.lexisAheadRow.func = some f) (hfn : Tryd.pinned.checked.prog.funcs[f]? = some fn) :
    false = Tryd.pinned.checked.prog.looks [] ∧ ∀ (j : Nat) t, fn.params[j]? = some t → Tryd.pinned.checked.prog.wantsStandIn t = false := by
  obtain rfl : f = 6 := Option.some.inj ((show Tryd.prog.funcNamed Rows.lexisAheadRow.func = some 6 by kernel_rfl).symm.trans hf) |>.symm
  obtain rfl : fn = Tryd.f6 := (Option.some.inj (Tryd.func6.symm.trans hfn)).symm
  refine ⟨by kernel_rfl, fun j t ht => ?_⟩
  rw [Tryd.params6] at ht
  have hm : t ∈ [9, 3, 9] := by simpa using Array.mem_of_getElem? ht
  have hall : ([9, 3, 9].all fun u => !Tryd.prog.wantsStandIn u) = true := by kernel_rfl
  exact (show Tryd.prog.wantsStandIn t = false by simpa using List.all_eq_true.1 hall t hm)
end LexisAhead

theorem lexisAhead_holds : Rows.LexisAheadCardSaid :=
  Claim7.holds_tied_plain_at .later [] _ _ _ _ LexisAhead.over (fun _ h => by cases h) (by kernel_rfl) (fun _ h => by cases h) lexisAhead_row_tie rfl ⟨rfl, rfl⟩ (by kernel_rfl) rfl LexisAhead.plain (by kernel_rfl)
#print axioms lexisAhead_holds
end Go.Proofs.YtkmcnkfmlkdeeaaDoor
