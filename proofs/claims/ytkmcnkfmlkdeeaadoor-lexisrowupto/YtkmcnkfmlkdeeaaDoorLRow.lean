/- PROVED: of any text, LexisRow returns true: all tokens stand side by side, each where the one ahead ends; texts are not empty, and no two of them stand side by side; the text reads afterwards as it read before. Its conditions: what the arguments hold is at most 1048576 values and letters together (the statement's second form), and the table of glyph lies as the program's text lays it. -/
import Derived.Test.YtkmcnkfmlkdeeaaDoorLAlive
import Derived.Test.YtkmcnkfmlkdeeaaDoorGLaid
import Derived.Test.YtkmcnkfmlkdeeaaDoorTie
import Derived.Test.YtkmcnkfmlkdeeaaDoorCards
import Derived.SevenTiedAt
import Derived.Deep.DeepHandedRow
namespace Go.Proofs.YtkmcnkfmlkdeeaaDoor
open Go.ChangeShapes Go.WideShapes Go.ChangeAt Go.RowKit Go.Shelf
open Go.ChangeMaps (open_string shut_string)
theorem L.side_len {s : ByteArray} : ∀ {ts : List L.Tok} {i : Nat}, L.Side s i ts → i ≤ s.size → ts.length ≤ s.size - i
  | [], _, _, _ => by simp
  | a :: l, i, ⟨h1, n, h2, h3⟩, _ => by
    have hg := L.one_go h1 h2
    have := L.side_len h3 hg.2
    simp only [List.length_cons]
    omega
namespace LexisRow
/-- Where the loop is: the tokens from k on stand side by side from i on. -/
structure At (w : World) (s : ByteArray) (l : List TV) (V : Value) (k i : Nat) (W : World) : Prop where
  le : k ≤ l.length
  side : L.Side s i ((l.drop k).map (·.1))
  top : i ≤ s.size
  prev : 0 < k → ∀ (h2 : k - 1 < l.length), l[k - 1].1.kind = 4 → i < s.size → L.thereB s i [60] = true
  row : TokRow w.heap.size V l W
  bel : Below w.heap.size w W
set_option maxRecDepth 100000 in
set_option maxHeartbeats 4000000 in
theorem walk (s : ByteArray) (hz : s.size ≤ 1048576) (w : World) (ht : Tab w) :
    Calls Tryd.prog 4 #[.string s] w fun e w' => e = .returned (.bool true) ∧ Below w.heap.size w w' := by
  have HT := hid ht
  clear ht
  obtain ⟨res, HR⟩ : ∃ res, Hid (L.allP s = res) := ⟨_, hid rfl⟩
  go_enter Tryd.func4, Tryd.ntmps4
  go_wp2_with fail
  refine Calls.mono (all_any' s w HT.out hz res HR) ?_
  rintro e w1 ⟨hb1, ⟨q, e0, h1, h2, rfl⟩ | ⟨l, V, h1, rfl, h3⟩⟩
  · have b1 : (e0 == 0) = false := beq_eq_false_iff_ne.2 h2
    have HT1 := hid (HT.out.below hb1)
    have HB1 := hid hb1
    clear hb1 h1 h2
    go_wp2_with fail
    refine (alive_any w1 HT1.out).mono ?_
    rintro e w2 ⟨rfl, hb2⟩
    have HB2 := hid (HB1.out.trans (hb2.mono HB1.out.size))
    clear hb2
    go_wp2
    go_ret
    exact ⟨rfl, HB2.out⟩
  · have hs : L.Side s 0 (l.map (·.1)) := L.allP_side (HR.out.trans h1)
    have hll : l.length ≤ 1048576 := by have := L.side_len hs (by omega); simp only [List.length_map] at this; omega
    obtain ⟨ao, cp, rfl⟩ : ∃ ao cp, V = .slice ao l.length cp := by
      rcases h3.1.2 with ⟨h, h'⟩ | ⟨_, _, _, h, _⟩
      · exact ⟨none, 0, by rw [h, h']⟩
      · exact ⟨_, _, h⟩
    have A0 : Hid (At w s l (.slice ao l.length cp) 0 0 w1) := hid ⟨by omega, by simpa using hs, by omega, fun h => absurd h (by omega), h3, hb1⟩
    clear hs h3 hb1 h1 HR
    go_wp2
    go_loopw [6, 29] (fun v6 v29 W => ∃ (k i : Nat), v6 = .int .i64 (i : Int) ∧ v29 = .int .i64 (k : Int) ∧ Hid (At w s l (.slice ao l.length cp) k i W)) (fun _ v29 _ => l.length - (intOf v29).toNat)
    case atStart => exact ⟨0, 0, rfl, rfl, A0⟩
    case round =>
      clear A0
      obtain ⟨k, i, rfl, rfl, HA⟩ := hrel
      by_cases hk : k < l.length
      · obtain ⟨g, cap, hV, hg, _⟩ := tok_form HA.out.row (by intro q; rw [q] at hk; simp at hk)
        simp only [Value.slice.injEq, true_and] at hV
        obtain ⟨rfl, rfl⟩ := hV
        obtain ⟨hi, n, ho, hs⟩ : i < s.size ∧ ∃ n, L.oneN s i = .ok (l[k].1, n) ∧ L.Side s n ((l.drop (k + 1)).map (·.1)) := by
          have := HA.out.side
          rw [List.drop_eq_getElem_cons hk, List.map_cons] at this
          exact this
        obtain ⟨may, hp, hne⟩ := L.one_may hi ho
        have hgo := L.one_go hi ho
        obtain ⟨c0, c1, c2, c3, c4⟩ := tok_cells HA.out.row k hk
        have hrow := HA.out.row.2 _ (List.getElem_mem hk)
        obtain ⟨ao2, cp2, hv⟩ : ∃ ao cp, l[k].2 = .slice ao l[k].1.attrs.length cp := by
          rcases hrow.2 with ⟨h, h'⟩ | ⟨_, _, _, h, _⟩
          · exact ⟨none, 0, by rw [h, h']⟩
          · exact ⟨_, _, h⟩
        rw [hv] at c4
        have HP : Hid (0 < k → ∀ (h2 : k - 1 < l.length), (l[k - 1].1.kind == 4) = false ∨ l[k].1.kind ≠ 4) := hid (fun h h2 => by
          cases hb : (l[k - 1].1.kind == 4)
          · exact Or.inl rfl
          · exact Or.inr (L.tag_kind ho (HA.out.prev h h2 (by simpa using hb) hi)))
        have A1 : Hid (∀ W, TokRow w.heap.size (.slice (some ⟨g, 0, none⟩) l.length cp) l W → Below w.heap.size w W → At w s l (.slice (some ⟨g, 0, none⟩) l.length cp) (k + 1) n W) := hid (fun W r1 r2 => ⟨by omega, hs, hgo.2, fun _ h2 hk4 hn => L.text_stop ho (by simpa using hk4) hn, r1, r2⟩)
        have HO : Hid (L.oneP s (i : Int) = .ok (l[k].1, n)) := hid (by rw [oneP_nat hi]; exact ho)
        have HNE : Hid (l[k].1.kind = 4 → (l[k].1.text.toList == (⟨#[]⟩ : ByteArray).toList) = false) := hid (fun h => by
          rw [str_eq]
          have := hne h
          simp only [decide_eq_false_iff_not]
          intro q
          rw [q] at this
          exact this rfl)
        have hgn : i < n := hgo.1
        have HRow := hid HA.out.row
        have HBel := hid HA.out.bel
        have gl : g < wr.heap.size := hg
        have CP : Hid (∀ (h2 : k - 1 < l.length), wr.cell? ⟨g, (k - 1) * 5, none⟩ = some (.int .i64 l[k - 1].1.kind)) := hid (fun h2 => (tok_cells HA.out.row (k - 1) h2).1)
        generalize l[k].1 = t at *
        obtain ⟨kd, ps, nm, tx, ats⟩ := t
        dsimp only at *
        subst hp
        clear HA may ho hne hs hgo hrow hv
        go_wp2_with fail
        refine Calls.mono (one_any s (ps : Int) _ (HT.out.below (HBel.out.alloc HBel.out.size _)) (by omega)) ?_
        rw [HO.out]
        rintro e w2 ⟨hb2, ⟨q, e0, h1, _⟩ | ⟨t', n', v9, h1, rfl, h9⟩⟩
        · cases h1
        simp only [Except.ok.injEq, Prod.mk.injEq] at h1
        obtain ⟨rfl, rfl⟩ := h1
        obtain ⟨ao9, nn9, cp9, rfl⟩ : ∃ ao nn cp, v9 = .slice ao nn cp := by
          rcases h9.2 with ⟨h, _⟩ | ⟨_, _, _, h, _⟩
          · exact ⟨_, _, _, h⟩
          · exact ⟨_, _, _, h⟩
        have hsz : wr.heap.size < w2.heap.size := by have := hb2.size; simp at this; omega
        have x0 : (w2.alloc (Obj.cells #[.int .i64 kd, .int .i64 (ps : Int), .string nm, .string tx, .slice ao9 nn9 cp9] 25)).cell? ⟨wr.heap.size, 0, none⟩ = some (.int .i64 kd) := by
          rw [World.cell?_alloc_past _ _ _ hsz, hb2.cell (p := ⟨wr.heap.size, 0, none⟩) (by simp), cell_of_row _ wr.heap.size 0 _ _ _ (heap_alloc_new wr _)]; rfl
        have x1 : (w2.alloc (Obj.cells #[.int .i64 kd, .int .i64 (ps : Int), .string nm, .string tx, .slice ao9 nn9 cp9] 25)).cell? ⟨wr.heap.size, 1, none⟩ = some (.int .i64 (ps : Int)) := by
          rw [World.cell?_alloc_past _ _ _ hsz, hb2.cell (p := ⟨wr.heap.size, 1, none⟩) (by simp), cell_of_row _ wr.heap.size 1 _ _ _ (heap_alloc_new wr _)]; rfl
        have x3 : (w2.alloc (Obj.cells #[.int .i64 kd, .int .i64 (ps : Int), .string nm, .string tx, .slice ao9 nn9 cp9] 25)).cell? ⟨wr.heap.size, 3, none⟩ = some (.string tx) := by
          rw [World.cell?_alloc_past _ _ _ hsz, hb2.cell (p := ⟨wr.heap.size, 3, none⟩) (by simp), cell_of_row _ wr.heap.size 3 _ _ _ (heap_alloc_new wr _)]; rfl
        have XP : Hid (∀ (h2 : k - 1 < l.length), (w2.alloc (Obj.cells #[.int .i64 kd, .int .i64 (ps : Int), .string nm, .string tx, .slice ao9 nn9 cp9] 25)).cell? ⟨g, (k - 1) * 5, none⟩ = some (.int .i64 l[k - 1].1.kind)) := hid (fun h2 => by
          rw [World.cell?_alloc_past _ _ _ (by show g < _; omega), hb2.cell (p := ⟨g, (k - 1) * 5, none⟩) (by simp; omega), World.cell?_alloc_past _ _ _ gl]
          exact CP.out h2)
        have HB3 : Hid (Below w.heap.size w (w2.alloc (Obj.cells #[.int .i64 kd, .int .i64 (ps : Int), .string nm, .string tx, .slice ao9 nn9 cp9] 25))) := hid (((HBel.out.alloc HBel.out.size _).trans (hb2.mono (by have := HBel.out.size; simp; omega))).alloc (by have := HBel.out.size; omega) _)
        have HR3 : Hid (TokRow w.heap.size (.slice (some ⟨g, 0, none⟩) l.length cp) l (w2.alloc (Obj.cells #[.int .i64 kd, .int .i64 (ps : Int), .string nm, .string tx, .slice ao9 nn9 cp9] 25))) := hid (((HRow.out.below ((Below.refl _ _).alloc (Nat.le_refl _) _)).below hb2).below ((Below.refl _ _).alloc (Nat.le_refl _) _))
        have R1 := hid (A1.out _ HR3.out HB3.out)
        clear hb2 h9 HRow HBel CP
        unfold tokV
        by_cases hk4 : kd = 4
        · have T0 := HNE.out hk4
          subst hk4
          have T1 : (tx.toList == []) = false := by have h := T0; rw [ByteArray.toList_eq ⟨#[]⟩] at h; exact h
          rcases Nat.eq_zero_or_pos k with rfl | hpos
          · go_wp2
            go_roundw
            case rel => exact ⟨1, n, rfl, rfl, R1⟩
            case measure => simp [intOf]; omega
          · obtain ⟨k, rfl⟩ : ∃ q, k = q + 1 := ⟨k - 1, by omega⟩
            have xp := XP.out (by omega)
            have np := (HP.out (by omega) (by omega)).resolve_right (fun h => h rfl)
            simp only [Nat.add_sub_cancel] at xp np
            go_wp2
            go_roundw
            case rel => exact ⟨k + 1 + 1, n, rfl, by go_num, R1⟩
            case measure => simp [intOf]; omega
        · have T0 : (kd == 4) = false := beq_eq_false_iff_ne.2 hk4
          clear hk4
          go_wp2
          go_roundw
          case rel => exact ⟨k + 1, n, rfl, by go_num, R1⟩
          case measure => simp [intOf]; omega
      · have hk' : k = l.length := by have := HA.out.le; omega
        have hi : i = s.size := by
          have h1 := HA.out.side
          rw [hk', List.drop_length] at h1
          have h2 := HA.out.top
          have h3 : s.size ≤ i := h1
          omega
        have HT1 := hid (HT.out.below HA.out.bel)
        have HB1 := hid HA.out.bel
        subst hi
        clear HA
        go_wp2_with fail
        refine (alive_any _ HT1.out).mono ?_
        rintro e w2 ⟨rfl, hb2⟩
        have HB2 := hid (HB1.out.trans (hb2.mono HB1.out.size))
        clear hb2
        go_wp2
        go_ret
        exact ⟨rfl, HB2.out⟩

set_option maxRecDepth 100000 in
theorem contract (H : Type) (enc : TypeId × Value → H) (W : World) (base : Nat) (args : Array Value) (ds gs : List (DataW H)) (before : List MemPlace)
    (hval : ∀ (j : Nat) t v, Tryd.f4.params[j]? = some t → args[j]? = some v → Value.okWide Tryd.prog W .any base t v)
    (hW : DataW.Whole enc Tryd.prog Tryd.f4.params.toList Rows.lexisRowSpec.vars false W args.toList ds gs before) (hL : laidMetH Tryd.prog laidT W)
    (hk : Rows.uptoSmall H (ds ++ gs) = true) :
    Calls Tryd.prog 4 args W fun e W' => ∃ v, e = .returned v ∧ Rows.lexisRowSpec.post enc Tryd.prog Tryd.f4 false true false false W args v W' := by
  have hW' := hW
  obtain ⟨p, q, hA0, hV, rfl, hfz, hnd⟩ := hW
  have hA : DataW.TrodAll enc Tryd.prog W 0 (fun _ => true) true Tryd.f4.params.toList args.toList ds p := hA0
  rw [Tryd.params4] at hA hval
  obtain ⟨v0, vs0, d0, ds0, p0, q0, hargs, rfl, rfl, h0, r0⟩ := trodAll_cons hA
  obtain ⟨rfl, rfl, rfl⟩ := trodAll_nil r0
  obtain rfl : args = #[v0] := by cases args; simp_all
  obtain ⟨rfl, rfl⟩ := trodVars_none hV
  obtain ⟨a0, rfl, rfl, rfl, w0⟩ := open_string Tryd.underlying9 (hval 0 9 v0 rfl rfl) h0
  have hk1 : Rows.uptoBulkAll _ ≤ 1048576 := of_decide_eq_true hk
  simp only [List.append_nil, Rows.uptoBulkAll, Rows.uptoBulk, Array.length_toList, ByteArray.size_data] at hk1
  have z0 : a0.size ≤ 1048576 := by omega
  have hT := tab_of hL
  clear hA0 hL hk hk1
  simp only [List.append_nil] at hW'
  refine (walk a0 z0 W hT).mono fun e W' ⟨he, hb⟩ => ?_
  subst he
  exact ⟨_, rfl, _, _, _, [], [], [], hW', trodAll_mk1 (shut_bool Tryd.underlying4 _), (trodAll_cons_mk (shut_string Tryd.underlying9 w0) trodAll_mk0), rfl, hb.frame _, fun h => by cases h⟩

theorem reads (os : Os) {H : Type} (enc : TypeId × Value → H) : ∃ places, DataW.whole enc Tryd.prog ((World.doorLaid Tryd.prog 400 os).forCall (fun _ _ => 0) ⟨#[], #[.string ⟨#[]⟩], []⟩).memory Tryd.f4.params.toList Rows.lexisRowSpec.vars false #[Value.string ⟨#[]⟩].toList 8 = some ([.lit (.string [])], [], places) :=
  ⟨[], by kernel_rfl⟩
theorem laid_met (os : Os) (args : Array Value) : laidMet Tryd.prog Rows.lexisRowUptoRow.laid ((World.doorLaid Tryd.prog 400 os).forCall (fun _ _ => 0) ⟨#[], args, []⟩).memory :=
  laidMet_of_run' 8 (by kernel_rfl) (by kernel_rfl)

set_option maxRecDepth 100000 in
theorem lifted (os : Os) (started : os.Started) (H : Type) (enc : TypeId × Value → H) (F : Stop.Interp) :
    ReturnsInHanded {} Tryd.checked os 4 .any ((Rows.OpenSpec.upto Rows.lexisRowSpec).preRow enc Tryd.prog Tryd.f4 Rows.lexisRowUptoRow.domain false Rows.lexisRowUptoRow.laid) (((Rows.OpenSpec.upto Rows.lexisRowSpec).at F).post enc Tryd.prog Tryd.f4 false true false false) := by
  obtain ⟨places, hx⟩ := reads os enc
  refine returnsInHanded_of_row (C := Tryd.checked) (s := (Rows.OpenSpec.upto Rows.lexisRowSpec)) own started (by kernel_rfl) Tryd.func4
    (witness_row_at (enc := enc) (C := Tryd.checked) false (World.doorLaid Tryd.prog 400 os) #[.string ⟨#[]⟩] rfl (by kernel_rfl) (by kernel_rfl) (by kernel_rfl)
      (OpenSpec.preRow_of_cond 8 hx (by kernel_rfl) (fun k hk => by cases hk; kernel_rfl) (by kernel_rfl) (laid_met os _))) ?_
  intro W base args ds gs before hval hW _ hcond hsz hL _ _
  exact contract H enc W base args ds gs before hval hW hL (hcond _ rfl)

theorem over : Rows.LexisRowUptoSaid :=
  OpenClaim.holds_of_cond 4 Tryd.f4 rfl rfl rfl rfl rfl rfl rfl ⟨rfl, rfl, rfl, rfl, rfl⟩ rfl rfl rfl rfl rfl (by kernel_rfl) Tryd.func4 (by kernel_rfl)
    (of_decide_eq_true (by kernel_rfl)) (by unfold Func.isWrapper; first | (rw [if_pos (by decide +kernel)]; kernel_rfl) | (rw [if_neg (by decide +kernel)]; exact ⟨rfl, rfl⟩))
    (fun os started H enc _ F => by rw [OpenClaim.pre_eq_preRow]; exact lifted os started H enc F)
theorem plain (f : FuncId) (fn : Func) (hf : Tryd.pinned.checked.prog.funcNamed Rows.lexisRowUptoRow.func = some f) (hfn : Tryd.pinned.checked.prog.funcs[f]? = some fn) :
    false = Tryd.pinned.checked.prog.looks [] ∧ ∀ (j : Nat) t, fn.params[j]? = some t → Tryd.pinned.checked.prog.wantsStandIn t = false := by
  obtain rfl : f = 4 := Option.some.inj ((show Tryd.prog.funcNamed Rows.lexisRowUptoRow.func = some 4 by kernel_rfl).symm.trans hf) |>.symm
  obtain rfl : fn = Tryd.f4 := (Option.some.inj (Tryd.func4.symm.trans hfn)).symm
  refine ⟨by kernel_rfl, fun j t ht => ?_⟩
  rw [Tryd.params4] at ht
  have hm : t ∈ [9] := by simpa using Array.mem_of_getElem? ht
  have hall : ([9].all fun u => !Tryd.prog.wantsStandIn u) = true := by kernel_rfl
  exact (show Tryd.prog.wantsStandIn t = false by simpa using List.all_eq_true.1 hall t hm)
end LexisRow

theorem lexisRowUpto_holds : Rows.LexisRowUptoCardSaid :=
  Claim7.holds_tied_plain_at .later [] _ _ _ _ LexisRow.over (fun _ h => by cases h) (by kernel_rfl) (fun _ h => by cases h) lexisRowUpto_row_tie rfl ⟨rfl, rfl⟩ (by kernel_rfl) rfl LexisRow.plain (by kernel_rfl)
#print axioms lexisRowUpto_holds
end Go.Proofs.YtkmcnkfmlkdeeaaDoor
