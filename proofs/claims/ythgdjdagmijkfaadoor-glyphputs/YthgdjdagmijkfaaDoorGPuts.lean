/- PROVED: of any number of the type rune, and any text behind it, GlyphPuts returns true: a character has the bytes that the document says and is read out of them, whatever stands behind; both arguments read afterwards as they read before. Its condition: the table of ranges reads when the call begins as the program's own text lays it (the card ties that). -/
import Derived.Test.YthgdjdagmijkfaaDoorGAlive
import Derived.Test.YthgdjdagmijkfaaDoorGLaid
import Derived.Test.YthgdjdagmijkfaaDoorTie
import Derived.Test.YthgdjdagmijkfaaDoorCards
import Derived.SevenTiedAt
import Derived.Deep.DeepHandedRow
namespace Go.Proofs.YthgdjdagmijkfaaDoor
open Go.ChangeShapes Go.WideShapes Go.ChangeAt Go.RowKit
open Go.ChangeMaps (open_string shut_string)
namespace GlyphPuts
theorem join_eq (c : Int) (more : ByteArray) : (strOfNums (G.putN c) ++ more).data.toList = G.putL c ++ more.data.toList := by
  simp [strOfNums, G.putL]
theorem len_put (c : Int) : (strOfNums (G.putN c)).size = (G.putN c).length := strOfNums_size _

set_option maxRecDepth 100000 in
set_option maxHeartbeats 400000 in
theorem walk (c : Int) (more : ByteArray) (z1 : more.size ≤ 140737488351232) (w : World) (ht : Tab w) :
    Calls Tryd.prog 4 #[.int .i32 c, .string more] w fun e w' => e = .returned (.bool true) ∧ Below w.heap.size w w' := by
  have Ht : Hid (Tab w) := ht
  clear ht
  cases cb : G.charB c
  · have CB : Hid (G.charB c = false) := cb
    clear cb
    go_enter Tryd.func4, Tryd.ntmps4
    go_wp2_with fail
    refine (put_no _ _ Ht.out CB.out).mono ?_
    rintro e w1 ⟨rfl, hb1⟩
    go_wp2_with fail
    refine (rput_no _ _ CB.out).mono ?_
    rintro e w2 ⟨rfl, hb2⟩
    have hb3 : Below w.heap.size w w2 := hb1.trans (hb2.mono hb1.size)
    clear hb1 hb2
    go_wp2_with fail
    obtain ⟨⟨d, n⟩, HN⟩ : ∃ p, Hid (G.nextL (⟨#[]⟩ ++ more : ByteArray).data.toList = p) := ⟨_, rfl⟩
    refine (next_any _ d n _ (Ht.out.below hb3) (by rw [ByteArray.size_append]; show 0 + more.size ≤ maxLen; unfold maxLen; omega) HN).mono ?_
    rintro e w3 ⟨rfl, hb4⟩
    have hb5 : Below w.heap.size w w3 := hb3.trans (hb4.mono hb3.size)
    clear hb3 hb4
    go_wp2_with fail
    refine (alive_any _ (Ht.out.below hb5)).mono ?_
    rintro e w4 ⟨rfl, hb6⟩
    have hb7 : Below w.heap.size w w4 := hb5.trans (hb6.mono hb5.size)
    clear hb5 hb6
    go_wp2
    go_ret
    exact ⟨rfl, hb7⟩
  · have CB : Hid (G.charB c = true) := cb
    have pl := G.putN_len c
    obtain ⟨pl1, pl2⟩ := pl
    have sz := len_put c
    have HM : Hid ((strOfNums (G.putN c) ++ more).size ≤ maxLen) := by
      show _ ≤ _; rw [ByteArray.size_append, sz]; unfold maxLen; omega
    have HN : Hid (G.nextL (strOfNums (G.putN c) ++ more).data.toList = (c, (G.putN c).length)) := by
      show _ = _; rw [join_eq]; exact G.put_next c cb _
    clear cb
    go_enter Tryd.func4, Tryd.ntmps4
    go_wp2_with fail
    refine (put_yes _ _ Ht.out CB.out).mono ?_
    rintro e w1 ⟨rfl, hb1⟩
    go_wp2_with fail
    refine (rput_yes _ _ CB.out).mono ?_
    rintro e w2 ⟨rfl, hb2⟩
    have hb3 : Below w.heap.size w w2 := hb1.trans (hb2.mono hb1.size)
    clear hb1 hb2
    go_wp2_with fail
    refine (next_any _ c _ _ (Ht.out.below hb3) HM.out HN).mono ?_
    rintro e w3 ⟨rfl, hb4⟩
    have hb5 : Below w.heap.size w w3 := hb3.trans (hb4.mono hb3.size)
    clear hb3 hb4
    go_wp2_with fail
    refine (alive_any _ (Ht.out.below hb5)).mono ?_
    rintro e w4 ⟨rfl, hb6⟩
    have hb7 : Below w.heap.size w w4 := hb5.trans (hb6.mono hb5.size)
    clear hb5 hb6
    go_wp2
    go_ret
    exact ⟨rfl, hb7⟩
theorem contract (H : Type) (enc : TypeId × Value → H) (W : World) (base : Nat) (args : Array Value) (ds gs : List (DataW H)) (before : List MemPlace)
    (hval : ∀ (j : Nat) t v, Tryd.f4.params[j]? = some t → args[j]? = some v → Value.okWide Tryd.prog W .any base t v)
    (hW : DataW.Whole enc Tryd.prog Tryd.f4.params.toList Rows.glyphPutsSpec.vars false W args.toList ds gs before) (hL : laidMetH Tryd.prog laidT W)
    (hsz : (DataW.weightsEach Tryd.prog (Tryd.f4.params.toList ++ (OpenSpec.ofChange Rows.glyphPutsSpec).bare.plain.varTypes Tryd.prog) (ds ++ gs)).all (· ≤ reachBytes) = true) :
    Calls Tryd.prog 4 args W fun e W' => ∃ v, e = .returned v ∧ Rows.glyphPutsSpec.post enc Tryd.prog Tryd.f4 false true false false W args v W' := by
  have hW' := hW
  obtain ⟨p, q, hA0, hV, rfl, hfz, hnd⟩ := hW
  have hA : DataW.TrodAll enc Tryd.prog W 0 (fun _ => true) true Tryd.f4.params.toList args.toList ds p := hA0
  rw [Tryd.params4] at hA hval
  rw [Tryd.params4] at hsz
  obtain ⟨v0, vs0, d0, ds0, p0, q0, hargs, rfl, rfl, h0, r0⟩ := trodAll_cons hA
  obtain ⟨v1, vs1, d1, ds1, p1, q1, rfl, rfl, rfl, h1, r1⟩ := trodAll_cons r0
  obtain ⟨rfl, rfl, rfl⟩ := trodAll_nil r1
  obtain rfl : args = #[v0, v1] := by cases args; simp_all
  obtain ⟨rfl, rfl⟩ := trodVars_none hV
  obtain ⟨a0, rfl, rfl, rfl, w0⟩ := open_int Tryd.underlying21 (hval 0 21 v0 rfl rfl) h0
  obtain ⟨a1, rfl, rfl, rfl, w1⟩ := open_string Tryd.underlying9 (hval 1 9 v1 rfl rfl) h1
  have z1 : a1.size ≤ 140737488351232 := by simpa [reachBytes] using sized_string hsz (j := 1) (t := 9) rfl rfl
  have hT := tab_of hL
  clear hA0 hL hsz
  simp only [List.append_nil] at hW'
  refine (walk a0 a1 z1 W hT).mono fun e W' ⟨he, hb⟩ => ?_
  subst he
  exact ⟨_, rfl, _, _, _, [], [], [], hW', trodAll_mk1 (shut_bool Tryd.underlying4 _), (trodAll_cons_mk (shut_int Tryd.underlying21 w0) (trodAll_cons_mk (shut_string Tryd.underlying9 w1) trodAll_mk0)), rfl, hb.frame _, fun h => by cases h⟩

theorem reads (os : Os) {H : Type} (enc : TypeId × Value → H) : ∃ places, DataW.whole enc Tryd.prog ((World.doorLaid Tryd.prog 400 os).forCall (fun _ _ => 0) ⟨#[], #[.int .i32 0, .string ⟨#[]⟩], []⟩).memory Tryd.f4.params.toList Rows.glyphPutsSpec.vars false #[Value.int .i32 0, Value.string ⟨#[]⟩].toList 8 = some ([.lit (.int .i32 0), .lit (.string [])], [], places) :=
  ⟨[], by kernel_rfl⟩
theorem laid_met (os : Os) (args : Array Value) : laidMet Tryd.prog Rows.glyphPutsRow.laid ((World.doorLaid Tryd.prog 400 os).forCall (fun _ _ => 0) ⟨#[], args, []⟩).memory :=
  laidMet_of_run' 8 (by kernel_rfl) (by kernel_rfl)

set_option maxRecDepth 100000 in
theorem lifted (os : Os) (started : os.Started) (H : Type) (enc : TypeId × Value → H) (F : Stop.Interp) :
    ReturnsInHanded {} Tryd.checked os 4 .any ((OpenSpec.ofChange Rows.glyphPutsSpec).preRow enc Tryd.prog Tryd.f4 Rows.glyphPutsRow.domain false Rows.glyphPutsRow.laid) (((OpenSpec.ofChange Rows.glyphPutsSpec).at F).post enc Tryd.prog Tryd.f4 false true false false) := by
  obtain ⟨places, hx⟩ := reads os enc
  refine returnsInHanded_of_row (C := Tryd.checked) (s := (OpenSpec.ofChange Rows.glyphPutsSpec)) own started (by kernel_rfl) Tryd.func4
    (witness_row_at (enc := enc) (C := Tryd.checked) false (World.doorLaid Tryd.prog 400 os) #[.int .i32 0, .string ⟨#[]⟩] rfl (by kernel_rfl) (by kernel_rfl) (by kernel_rfl)
      (OpenSpec.preRow_of_cond 8 hx (by kernel_rfl) (fun k hk => by cases hk) (by kernel_rfl) (laid_met os _))) ?_
  intro W base args ds gs before hval hW _ hcond hsz hL _ _
  exact contract H enc W base args ds gs before hval hW hL hsz

theorem over : Rows.GlyphPutsSaid :=
  OpenClaim.holds_of_cond 4 Tryd.f4 rfl rfl rfl rfl rfl rfl rfl ⟨rfl, rfl, rfl, rfl, rfl⟩ rfl rfl rfl rfl rfl (by kernel_rfl) Tryd.func4 (by kernel_rfl)
    (of_decide_eq_true (by kernel_rfl)) (by unfold Func.isWrapper; first | (rw [if_pos (by decide +kernel)]; kernel_rfl) | (rw [if_neg (by decide +kernel)]; exact ⟨rfl, rfl⟩))
    (fun os started H enc _ F => by rw [OpenClaim.pre_eq_preRow]; exact lifted os started H enc F)
theorem plain (f : FuncId) (fn : Func) (hf : Tryd.pinned.checked.prog.funcNamed Rows.glyphPutsRow.func = some f) (hfn : Tryd.pinned.checked.prog.funcs[f]? = some fn) :
    false = Tryd.pinned.checked.prog.looks [] ∧ ∀ (j : Nat) t, fn.params[j]? = some t → Tryd.pinned.checked.prog.wantsStandIn t = false := by
  obtain rfl : f = 4 := Option.some.inj ((show Tryd.prog.funcNamed Rows.glyphPutsRow.func = some 4 by kernel_rfl).symm.trans hf) |>.symm
  obtain rfl : fn = Tryd.f4 := (Option.some.inj (Tryd.func4.symm.trans hfn)).symm
  refine ⟨by kernel_rfl, fun j t ht => ?_⟩
  rw [Tryd.params4] at ht
  have hm : t ∈ [21, 9] := by simpa using Array.mem_of_getElem? ht
  have hall : ([21, 9].all fun u => !Tryd.prog.wantsStandIn u) = true := by kernel_rfl
  exact (show Tryd.prog.wantsStandIn t = false by simpa using List.all_eq_true.1 hall t hm)
end GlyphPuts

theorem glyphPuts_holds : Rows.GlyphPutsCardSaid :=
  Claim7.holds_tied_plain_at .later [] _ _ _ _ GlyphPuts.over (fun _ h => by cases h) (by kernel_rfl) (fun _ h => by cases h) glyphPuts_row_tie rfl ⟨rfl, rfl⟩ (by kernel_rfl) rfl GlyphPuts.plain (by kernel_rfl)
#print axioms glyphPuts_holds
end Go.Proofs.YthgdjdagmijkfaaDoor
