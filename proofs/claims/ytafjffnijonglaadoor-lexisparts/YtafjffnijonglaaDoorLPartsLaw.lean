/- PROVED: of any text, LexisParts returns true: whatever is told of it, names are names, texts and values are made of characters, and not too long; attributes rise; the text reads afterwards as it read before. Its conditions: the table of glyph lies as the program's text lays it. -/
import Derived.Test.YtafjffnijonglaaDoorLSame
import Derived.Test.YtafjffnijonglaaDoorGLaid
import Derived.Test.YtafjffnijonglaaDoorTie
import Derived.Test.YtafjffnijonglaaDoorCards
import Derived.SevenTiedAt
import Derived.Deep.DeepHandedRow
import Derived.Lib.QuietBelow
import Derived.BigQuiet
namespace Go.Proofs.YtafjffnijonglaaDoor
open Go.ChangeShapes Go.WideShapes Go.ChangeAt Go.RowKit Go.Shelf Go.Sort
open Go.ChangeMaps (open_string shut_string)
theorem L.okT_len {t : L.Tok} (h : L.okT t) : t.kind < 4 → t.name.size ≤ 60 := fun hk => by
  have := h.2.1 hk
  unfold L.nameP G.nameB at this
  simp only [Bool.and_eq_true, decide_eq_true_eq] at this
  simpa using this.1.1
theorem L.okA_len {a : L.Attr} (h : L.okA a) : a.1.size ≤ 60 := by
  have := h.1
  unfold L.nameP G.nameB at this
  simp only [Bool.and_eq_true, decide_eq_true_eq] at this
  simpa using this.1.1
theorem L.rise_at : ∀ {l : List L.Attr} (k : Nat) (hk : k + 1 < l.length), L.Rise l → L.ltB l[k].1 l[k + 1].1 = true
  | a :: c :: l, 0, _, h => h.1 c (List.mem_cons_self ..)
  | a :: l, k + 1, hk, h => L.rise_at (l := l) k (by simpa using hk) h.2
theorem leq_no {a c : ByteArray} (h : L.ltB c a = true) : (Op.bytesLess a.toList c.toList || a.toList == c.toList) = false := by
  rw [str_eq, ByteArray.toList_eq, ByteArray.toList_eq, L.less_lt]
  have h1 : L.ltB a c = false := by
    cases hb : L.ltB a c
    · rfl
    · have := L.lt_tr h hb; rw [L.lt_irr] at this; cases this
  have h2 : a ≠ c := by intro q; subst q; rw [L.lt_irr] at h; cases h
  unfold L.ltB at h1
  rw [h1]
  simp [h2]
theorem L.side_lenP {s : ByteArray} : ∀ {ts : List L.Tok} {i : Nat}, L.Side s i ts → i ≤ s.size → ts.length ≤ s.size - i
  | [], _, _, _ => by simp
  | a :: l, i, ⟨h1, n, h2, h3⟩, _ => by
    have hg := L.one_go h1 h2
    have := L.side_lenP h3 hg.2
    simp only [List.length_cons]
    omega
namespace LexisParts
/-- Where the inner loop is. -/
structure In (w : World) (l : List TV) (V : Value) (W : World) : Prop where
  row : TokRow w.heap.size V l W
  bel : Below w.heap.size w W
theorem In.below {w : World} {l : List TV} {V : Value} {W W' : World} (h : In w l V W) (hb : Below W.heap.size W W') : In w l V W' := ⟨h.row.below hb, h.bel.trans (hb.mono h.bel.size)⟩
theorem In.alloc {w : World} {l : List TV} {V : Value} {W : World} (h : In w l V W) (o : Obj) : In w l V (W.alloc o) := h.below ((Below.refl _ _).alloc (Nat.le_refl _) o)
/-- Where the inner loop is: the token's own cells, and its attributes. -/
structure In2 (w : World) (l : List TV) (V : Value) (Bt : Nat) (o : Obj) (v : Value) (ats : List L.Attr) (W : World) : Prop where
  base : In w l V W
  tok : W.heap[Bt]? = some o
  att : W.ownsRow w.heap.size 40 2 v ats.length (encL ats)
theorem In2.below {w : World} {l : List TV} {V : Value} {Bt : Nat} {o : Obj} {v : Value} {ats : List L.Attr} {W W' : World} (h : In2 w l V Bt o v ats W) (hb : Below W.heap.size W W') : In2 w l V Bt o v ats W' := ⟨h.base.below hb, (hb.block _ (lt_of_block h.tok)).trans h.tok, row_below h.att hb⟩
theorem In2.alloc {w : World} {l : List TV} {V : Value} {Bt : Nat} {o : Obj} {v : Value} {ats : List L.Attr} {W : World} (h : In2 w l V Bt o v ats W) (o' : Obj) : In2 w l V Bt o v ats (W.alloc o') := h.below ((Below.refl _ _).alloc (Nat.le_refl _) o')
set_option maxRecDepth 100000 in
set_option maxHeartbeats 8000000 in
theorem walk (s : ByteArray) (hz : s.size ≤ 140737488351232) (w : World) (ht : Tab w) :
    Calls Tryd.prog 4 #[.string s] w fun e w' => e = .returned (.bool true) ∧ Below w.heap.size w w' := by
  have HT := hid ht
  clear ht
  by_cases hbig : 20000 < s.size
  · have hb' : (20000 : Int) < (s.size : Int) := by omega
    go_enter Tryd.func4, Tryd.ntmps4
    go_wp2_with fail
    refine (alive_any w HT.out).mono ?_
    rintro e w2 ⟨rfl, hb2⟩
    have HB2 := hid hb2
    clear hb2
    go_wp2
    go_ret
    exact ⟨rfl, HB2.out⟩
  have hs2 : s.size ≤ 20000 := by omega
  clear hz hbig
  obtain ⟨res, HR⟩ : ∃ res, Hid (L.allP s = res) := ⟨_, hid rfl⟩
  go_enter Tryd.func4, Tryd.ntmps4
  have hs3 : ¬ (20000 : Int) < (s.size : Int) := by omega
  go_wp2_with fail
  refine Calls.mono (all_any' s w HT.out (by omega) res HR) ?_
  rintro e w1 ⟨hb1, ⟨q, e0, h1, h2, rfl⟩ | ⟨l, V, h1, rfl, h3⟩⟩
  · have HB1 := hid hb1
    have HT1 := hid (HT.out.below hb1)
    clear hb1 h1 h2
    go_wp2
    refine wp_loop_rounds 1 ?_
    rw [rounds_succ]
    go_wp2_with fail
    refine (alive_any w1 HT1.out).mono ?_
    rintro e w3 ⟨rfl, hb3⟩
    have HB3 := hid (HB1.out.trans (hb3.mono HB1.out.size))
    clear hb3
    go_wp2
    go_ret
    exact ⟨rfl, HB3.out⟩
  · have hs : L.Side s 0 (l.map (·.1)) := L.allP_side (HR.out.trans h1)
    have HOK : Hid (∀ t ∈ l.map (·.1), L.okT t) := hid (L.side_may hs)
    have hll : l.length ≤ 20000 := by have := L.side_lenP hs (by omega); simp only [List.length_map] at this; omega
    obtain ⟨ao, cp, rfl⟩ : ∃ ao cp, V = .slice ao l.length cp := by
      rcases h3.1.2 with ⟨h, h'⟩ | ⟨_, _, _, h, _⟩
      · exact ⟨none, 0, by rw [h, h']⟩
      · exact ⟨_, _, h⟩
    have I0 := hid (show In w l (.slice ao l.length cp) w1 from ⟨h3, hb1⟩)
    clear hb1 h1 h3 hs HR
    go_wp2
    go_loopw [22] (fun v22 W => ∃ (k : Nat), v22 = .int .i64 (k : Int) ∧ k ≤ l.length ∧ Hid (In w l (.slice ao l.length cp) W)) (fun v22 _ => l.length - (intOf v22).toNat)
    case atStart => exact ⟨0, rfl, by omega, I0⟩
    case round =>
      clear I0
      obtain ⟨k, rfl, hk, HI⟩ := hrel
      by_cases hlt : k < l.length
      · obtain ⟨g, cap, e1, hg, _⟩ := tok_form HI.out.row (by intro q; rw [q] at hlt; simp at hlt)
        simp only [Value.slice.injEq, true_and] at e1
        obtain ⟨rfl, rfl⟩ := e1
        obtain ⟨c0, c1, c2, c3, c4⟩ := tok_cells HI.out.row k hlt
        have hr := HI.out.row.2 _ (List.getElem_mem hlt)
        have hok := HOK.out l[k].1 (List.mem_map_of_mem (List.getElem_mem hlt))
        have hkk : (k : Int) < (l.length : Int) := by omega
        generalize l[k].1 = t at *
        generalize l[k].2 = v at *
        obtain ⟨kd, ps, nm, tx, ats⟩ := t
        dsimp only at *
        have hnl := L.okT_len hok
        obtain ⟨o1, o2, o3, o4, o5, o6, o7, o8⟩ := hok
        dsimp only at *
        obtain ⟨ao1, cp1, rfl⟩ := att_len hr
        have HRW := hid hr
        have HO7 := hid o7
        have HO8 := hid o8
        obtain ⟨cz, HCZ, hcz⟩ : ∃ cz, Hid (G.countZ tx.data.toList = cz) ∧ ¬ cz < 0 := ⟨_, hid rfl, o4⟩
        have HO2 := hid o2
        have HNL := hid hnl
        clear hr o7 o8 o4 o2 hnl
        have J2 := hid (show In2 w l (.slice (some ⟨g, 0, none⟩) l.length cp) wr.heap.size (.cells #[.int .i64 kd, .int .i64 (ps : Int), .string nm, .string tx, .slice ao1 ats.length cp1] 27 (0, 0)) (.slice ao1 ats.length cp1) ats (wr.alloc (.cells #[.int .i64 kd, .int .i64 (ps : Int), .string nm, .string tx, .slice ao1 ats.length cp1] 27)) from ⟨HI.out.alloc _, heap_alloc_new wr _, World.ownsRow.alloc HRW.out _⟩)
        have o5' : ¬ (1500 : Int) < (tx.size : Int) := by omega
        have o6' : ¬ (20 : Int) < (ats.length : Int) := by omega
        clear HI HRW
        by_cases hk4 : kd = 4
        · subst hk4
          obtain rfl := o3 rfl
          unfold L.noB at *
          go_wp2_with fail
          generalize wr.heap.size = Bt at *
          have J3 := J2
          refine (count_any tx cz _ (HT.out.below J3.out.base.bel) (by unfold maxLen; omega) HCZ).mono ?_
          rintro e w4 ⟨rfl, hb4⟩
          have J4 := hid (J3.out.below hb4)
          have x3 : w4.cell? ⟨Bt, 3, none⟩ = some (.string tx) := cell_of_row _ Bt 3 _ _ _ J4.out.tok
          have x4 : w4.cell? ⟨Bt, 4, none⟩ = some (.slice ao1 ats.length cp1) := cell_of_row _ Bt 4 _ _ _ J4.out.tok
          clear hb4 J3
          have J0 := hid (show In2 w l (.slice (some ⟨g, 0, none⟩) l.length cp) Bt (.cells #[.int .i64 4, .int .i64 (ps : Int), .string ⟨#[]⟩, .string tx, .slice ao1 ats.length cp1] 27 (0, 0)) (.slice ao1 ats.length cp1) ats w4 from J4.out)
          go_wp2
          go_loopw [66] (fun v66 W => ∃ (q : Nat), v66 = .int .i64 (q : Int) ∧ q ≤ ats.length ∧ Hid (In2 w l (.slice (some ⟨g, 0, none⟩) l.length cp) Bt (.cells #[.int .i64 4, .int .i64 (ps : Int), .string ⟨#[]⟩, .string tx, .slice ao1 ats.length cp1] 27 (0, 0)) (.slice ao1 ats.length cp1) ats W)) (fun v66 _ => ats.length - (intOf v66).toNat)
          case atStart => exact ⟨0, rfl, by omega, J0⟩
          case round =>
            clear J0 J4
            obtain ⟨q, rfl, hq, HJ⟩ := hrel
            by_cases hqt : q < ats.length
            · obtain ⟨ga, capa, e1, hga⟩ := att_form HJ.out.att (by intro h; rw [h] at hqt; simp at hqt)
              simp only [Value.slice.injEq, true_and] at e1
              obtain ⟨rfl, rfl⟩ := e1
              obtain ⟨a0, a1⟩ := att_cells HJ.out.att q hqt
              have hqq : (q : Int) < (ats.length : Int) := by omega
              have okq := HO7.out _ (List.getElem_mem hqt)
              have anl := L.okA_len okq
              have PREV : Hid (∀ p, q = p + 1 → ∃ x, (Op.bytesLess ats[q].1.toList x.toList || ats[q].1.toList == x.toList) = false ∧ (wr.alloc (.cells #[.string ats[q].1, .string ats[q].2] 40)).cell? ⟨ga, p * 2, none⟩ = some (.string x)) := hid (fun p hp => by
                subst hp
                refine ⟨ats[p].1, leq_no (L.rise_at p hqt HO8.out), ?_⟩
                rw [World.cell?_alloc_past _ _ _ hga]
                exact (att_cells HJ.out.att p (by omega)).1)
              obtain ⟨ca, HCA⟩ : ∃ ca : Nat, Hid (G.countZ ats[q].2.data.toList = (ca : Int)) := ⟨(G.countZ ats[q].2.data.toList).toNat, hid (by have := okq.2.1; omega)⟩
              have hvl : ats[q].2.size ≤ 1500 := okq.2.2
              have HNA : Hid (G.nameB ats[q].1.data.toList = true) := hid okq.1
              have J5 := hid (HJ.out.alloc (.cells #[.string ats[q].1, .string ats[q].2] 40))
              have m4' : (wr.alloc (.cells #[.string ats[q].1, .string ats[q].2] 40)).cell? ⟨Bt, 4, none⟩ = some (.slice (some ⟨ga, 0, none⟩) ats.length cp1) := cell_of_row _ Bt 4 _ _ _ J5.out.tok
              have n0' : (wr.alloc (.cells #[.string ats[q].1, .string ats[q].2] 40)).cell? ⟨wr.heap.size, 0, none⟩ = some (.string ats[q].1) := by rw [cell_of_row _ wr.heap.size 0 _ _ _ (heap_alloc_new wr _)]; rfl
              have n1' : (wr.alloc (.cells #[.string ats[q].1, .string ats[q].2] 40)).cell? ⟨wr.heap.size, 1, none⟩ = some (.string ats[q].2) := by rw [cell_of_row _ wr.heap.size 1 _ _ _ (heap_alloc_new wr _)]; rfl
              have hba : Hid (wr.heap.size < (wr.alloc (.cells #[.string ats[q].1, .string ats[q].2] 40)).heap.size ∧ ga < (wr.alloc (.cells #[.string ats[q].1, .string ats[q].2] 40)).heap.size) := hid ⟨by simp, by simp; omega⟩
              go_wp2
              generalize ats[q].1 = an at *
              generalize ats[q].2 = av at *
              generalize wr.alloc (.cells #[.string an, .string av] 40) = W1 at *
              generalize wr.heap.size = Ba at *
              have hbt : Hid (Bt < W1.heap.size) := hid (lt_of_block J5.out.tok)
              have NM : Hid (∀ d os, Calls Tryd.prog 13 #[.string an] (grow (redrawn W1 d) os) fun e w'' => e = .returned (.bool true) ∧ ∃ p : Regrown, w'' = grow (redrawn W1 p.d) p.os) := hid (fun d os => Calls.regrown_of (name_any an true _ (HT.out.below ((J5.out.below (below_regrown W1 d os)).base.bel)) (by unfold maxLen; omega) HNA))
              have CT : Hid (∀ d os, Calls Tryd.prog 14 #[.string av] (grow (redrawn W1 d) os) fun e w'' => e = .returned (.int .i64 (ca : Int)) ∧ ∃ p : Regrown, w'' = grow (redrawn W1 p.d) p.os) := hid (fun d os => Calls.regrown_of (count_any av (ca : Int) _ (HT.out.below ((J5.out.below (below_regrown W1 d os)).base.bel)) (by unfold maxLen; omega) HCA))
              have hvl' : decide ((1500 : Int) < (av.size : Int)) = false := decide_eq_false (by omega)
              have hca : decide ((ca : Int) < 0) = false := decide_eq_false (by omega)
              have K0 := cell_regrown n0'
              have K1 := cell_regrown n1'
              have M4 := cell_regrown m4'
              clear a0 a1 okq HNA HCA anl HO7 HO8 HOK HO2 HNL HCZ hcz o1 o3 o5 o5' o6' hvl c0 c1 c2 c3 c4 x3 x4 hkk hqq HJ n0' n1' m4'
              rcases Nat.eq_zero_or_pos q with hz | hpos
              · clear PREV
                have hd : decide ((0 : Int) < (q : Int)) = false := decide_eq_false (by omega)
                refine wp_region_quiet_below (by kernel_rfl) (by kernel_rfl) ?_
                repeat (first | go_big_quiet_step (first | exact NM.out _ _ | exact CT.out _ _) | quiet_step (first | exact NM.out _ _ | exact CT.out _ _))
                refine wpQuiet_nil ?_
                rintro _ ⟨⟨dq, osq⟩, rfl⟩
                have J6 := hid (J5.out.below (below_regrown W1 dq osq))
                clear K0 K1 M4 NM CT J5
                generalize grow (redrawn W1 dq) osq = W6 at *
                go_wp2
                go_roundw
                case rel => exact ⟨q + 1, by go_num, by omega, J6⟩
                case measure => simp [intOf]; omega
              · obtain ⟨p, rfl⟩ : ∃ p, q = p + 1 := ⟨q - 1, by omega⟩
                obtain ⟨px, lq, pc⟩ := PREV.out p rfl
                have PC := cell_regrown pc
                have hp0 : (0 : Int) ≤ (p : Int) := by omega
                have hp1 : (p : Int) < (ats.length : Int) := by omega
                have hd : decide ((0 : Int) < ((p + 1 : Nat) : Int)) = true := decide_eq_true (by omega)
                have hd' : decide ((0 : Int) < (p : Int) + 1) = true := decide_eq_true (by omega)
                clear PREV pc
                refine wp_region_quiet_below (by kernel_rfl) (by kernel_rfl) ?_
                repeat (first | go_big_quiet_step (first | exact NM.out _ _ | exact CT.out _ _) | quiet_step (first | exact NM.out _ _ | exact CT.out _ _))
                refine wpQuiet_nil ?_
                rintro _ ⟨⟨dq, osq⟩, rfl⟩
                have J6 := hid (J5.out.below (below_regrown W1 dq osq))
                clear K0 K1 M4 NM CT J5 PC lq
                generalize grow (redrawn W1 dq) osq = W6 at *
                go_wp2
                go_roundw
                case rel => exact ⟨p + 1 + 1, by go_num, by omega, J6⟩
                case measure => simp [intOf]; omega
            · have hqq : ¬ (q : Int) < (ats.length : Int) := by omega
              have I9 := hid HJ.out.base
              clear HJ
              go_wp2
              go_roundw
              case rel => exact ⟨k + 1, by go_num, by omega, I9⟩
              case measure => simp [intOf]; omega
        · have hk3 : kd < 4 := by omega
          have b4 : (kd == 4) = false := beq_eq_false_iff_ne.2 hk4
          have hnn := HNL.out hk3
          go_wp2_with fail
          refine (name_any nm true _ (HT.out.below J2.out.base.bel) (by unfold maxLen; omega) (hid (HO2.out hk3))).mono ?_
          rintro e w3 ⟨rfl, hb3⟩
          have J3 := hid (J2.out.below hb3)
          have y0 : w3.cell? ⟨wr.heap.size, 0, none⟩ = some (.int .i64 kd) := cell_of_row _ _ 0 _ _ _ J3.out.tok
          have y3 : w3.cell? ⟨wr.heap.size, 3, none⟩ = some (.string tx) := cell_of_row _ _ 3 _ _ _ J3.out.tok
          clear hb3 J2
          go_wp2_with fail
          generalize wr.heap.size = Bt at *
          refine (count_any tx cz _ (HT.out.below J3.out.base.bel) (by unfold maxLen; omega) HCZ).mono ?_
          rintro e w4 ⟨rfl, hb4⟩
          have J4 := hid (J3.out.below hb4)
          have x3 : w4.cell? ⟨Bt, 3, none⟩ = some (.string tx) := cell_of_row _ Bt 3 _ _ _ J4.out.tok
          have x4 : w4.cell? ⟨Bt, 4, none⟩ = some (.slice ao1 ats.length cp1) := cell_of_row _ Bt 4 _ _ _ J4.out.tok
          clear hb4 J3 y0 y3
          have J0 := hid (show In2 w l (.slice (some ⟨g, 0, none⟩) l.length cp) Bt (.cells #[.int .i64 kd, .int .i64 (ps : Int), .string nm, .string tx, .slice ao1 ats.length cp1] 27 (0, 0)) (.slice ao1 ats.length cp1) ats w4 from J4.out)
          go_wp2
          go_loopw [66] (fun v66 W => ∃ (q : Nat), v66 = .int .i64 (q : Int) ∧ q ≤ ats.length ∧ Hid (In2 w l (.slice (some ⟨g, 0, none⟩) l.length cp) Bt (.cells #[.int .i64 kd, .int .i64 (ps : Int), .string nm, .string tx, .slice ao1 ats.length cp1] 27 (0, 0)) (.slice ao1 ats.length cp1) ats W)) (fun v66 _ => ats.length - (intOf v66).toNat)
          case atStart => exact ⟨0, rfl, by omega, J0⟩
          case round =>
            clear J0 J4
            obtain ⟨q, rfl, hq, HJ⟩ := hrel
            by_cases hqt : q < ats.length
            · obtain ⟨ga, capa, e1, hga⟩ := att_form HJ.out.att (by intro h; rw [h] at hqt; simp at hqt)
              simp only [Value.slice.injEq, true_and] at e1
              obtain ⟨rfl, rfl⟩ := e1
              obtain ⟨a0, a1⟩ := att_cells HJ.out.att q hqt
              have hqq : (q : Int) < (ats.length : Int) := by omega
              have okq := HO7.out _ (List.getElem_mem hqt)
              have anl := L.okA_len okq
              have PREV : Hid (∀ p, q = p + 1 → ∃ x, (Op.bytesLess ats[q].1.toList x.toList || ats[q].1.toList == x.toList) = false ∧ (wr.alloc (.cells #[.string ats[q].1, .string ats[q].2] 40)).cell? ⟨ga, p * 2, none⟩ = some (.string x)) := hid (fun p hp => by
                subst hp
                refine ⟨ats[p].1, leq_no (L.rise_at p hqt HO8.out), ?_⟩
                rw [World.cell?_alloc_past _ _ _ hga]
                exact (att_cells HJ.out.att p (by omega)).1)
              obtain ⟨ca, HCA⟩ : ∃ ca : Nat, Hid (G.countZ ats[q].2.data.toList = (ca : Int)) := ⟨(G.countZ ats[q].2.data.toList).toNat, hid (by have := okq.2.1; omega)⟩
              have hvl : ats[q].2.size ≤ 1500 := okq.2.2
              have HNA : Hid (G.nameB ats[q].1.data.toList = true) := hid okq.1
              have J5 := hid (HJ.out.alloc (.cells #[.string ats[q].1, .string ats[q].2] 40))
              have m4' : (wr.alloc (.cells #[.string ats[q].1, .string ats[q].2] 40)).cell? ⟨Bt, 4, none⟩ = some (.slice (some ⟨ga, 0, none⟩) ats.length cp1) := cell_of_row _ Bt 4 _ _ _ J5.out.tok
              have n0' : (wr.alloc (.cells #[.string ats[q].1, .string ats[q].2] 40)).cell? ⟨wr.heap.size, 0, none⟩ = some (.string ats[q].1) := by rw [cell_of_row _ wr.heap.size 0 _ _ _ (heap_alloc_new wr _)]; rfl
              have n1' : (wr.alloc (.cells #[.string ats[q].1, .string ats[q].2] 40)).cell? ⟨wr.heap.size, 1, none⟩ = some (.string ats[q].2) := by rw [cell_of_row _ wr.heap.size 1 _ _ _ (heap_alloc_new wr _)]; rfl
              have hba : Hid (wr.heap.size < (wr.alloc (.cells #[.string ats[q].1, .string ats[q].2] 40)).heap.size ∧ ga < (wr.alloc (.cells #[.string ats[q].1, .string ats[q].2] 40)).heap.size) := hid ⟨by simp, by simp; omega⟩
              go_wp2
              generalize ats[q].1 = an at *
              generalize ats[q].2 = av at *
              generalize wr.alloc (.cells #[.string an, .string av] 40) = W1 at *
              generalize wr.heap.size = Ba at *
              have hbt : Hid (Bt < W1.heap.size) := hid (lt_of_block J5.out.tok)
              have NM : Hid (∀ d os, Calls Tryd.prog 13 #[.string an] (grow (redrawn W1 d) os) fun e w'' => e = .returned (.bool true) ∧ ∃ p : Regrown, w'' = grow (redrawn W1 p.d) p.os) := hid (fun d os => Calls.regrown_of (name_any an true _ (HT.out.below ((J5.out.below (below_regrown W1 d os)).base.bel)) (by unfold maxLen; omega) HNA))
              have CT : Hid (∀ d os, Calls Tryd.prog 14 #[.string av] (grow (redrawn W1 d) os) fun e w'' => e = .returned (.int .i64 (ca : Int)) ∧ ∃ p : Regrown, w'' = grow (redrawn W1 p.d) p.os) := hid (fun d os => Calls.regrown_of (count_any av (ca : Int) _ (HT.out.below ((J5.out.below (below_regrown W1 d os)).base.bel)) (by unfold maxLen; omega) HCA))
              have hvl' : decide ((1500 : Int) < (av.size : Int)) = false := decide_eq_false (by omega)
              have hca : decide ((ca : Int) < 0) = false := decide_eq_false (by omega)
              have K0 := cell_regrown n0'
              have K1 := cell_regrown n1'
              have M4 := cell_regrown m4'
              clear a0 a1 okq HNA HCA anl HO7 HO8 HOK HO2 HNL HCZ hcz o1 o3 o5 o5' o6' hvl c0 c1 c2 c3 c4 x3 x4 hkk hqq HJ n0' n1' m4'
              rcases Nat.eq_zero_or_pos q with hz | hpos
              · clear PREV
                have hd : decide ((0 : Int) < (q : Int)) = false := decide_eq_false (by omega)
                refine wp_region_quiet_below (by kernel_rfl) (by kernel_rfl) ?_
                repeat (first | go_big_quiet_step (first | exact NM.out _ _ | exact CT.out _ _) | quiet_step (first | exact NM.out _ _ | exact CT.out _ _))
                refine wpQuiet_nil ?_
                rintro _ ⟨⟨dq, osq⟩, rfl⟩
                have J6 := hid (J5.out.below (below_regrown W1 dq osq))
                clear K0 K1 M4 NM CT J5
                generalize grow (redrawn W1 dq) osq = W6 at *
                go_wp2
                go_roundw
                case rel => exact ⟨q + 1, by go_num, by omega, J6⟩
                case measure => simp [intOf]; omega
              · obtain ⟨p, rfl⟩ : ∃ p, q = p + 1 := ⟨q - 1, by omega⟩
                obtain ⟨px, lq, pc⟩ := PREV.out p rfl
                have PC := cell_regrown pc
                have hp0 : (0 : Int) ≤ (p : Int) := by omega
                have hp1 : (p : Int) < (ats.length : Int) := by omega
                have hd : decide ((0 : Int) < ((p + 1 : Nat) : Int)) = true := decide_eq_true (by omega)
                have hd' : decide ((0 : Int) < (p : Int) + 1) = true := decide_eq_true (by omega)
                clear PREV pc
                refine wp_region_quiet_below (by kernel_rfl) (by kernel_rfl) ?_
                repeat (first | go_big_quiet_step (first | exact NM.out _ _ | exact CT.out _ _) | quiet_step (first | exact NM.out _ _ | exact CT.out _ _))
                refine wpQuiet_nil ?_
                rintro _ ⟨⟨dq, osq⟩, rfl⟩
                have J6 := hid (J5.out.below (below_regrown W1 dq osq))
                clear K0 K1 M4 NM CT J5 PC lq
                generalize grow (redrawn W1 dq) osq = W6 at *
                go_wp2
                go_roundw
                case rel => exact ⟨p + 1 + 1, by go_num, by omega, J6⟩
                case measure => simp [intOf]; omega
            · have hqq : ¬ (q : Int) < (ats.length : Int) := by omega
              have I9 := hid HJ.out.base
              clear HJ
              go_wp2
              go_roundw
              case rel => exact ⟨k + 1, by go_num, by omega, I9⟩
              case measure => simp [intOf]; omega
      · have hkk : ¬ (k : Int) < (l.length : Int) := by omega
        have HT2 := hid (HT.out.below HI.out.bel)
        have HB2 := hid HI.out.bel
        clear HI
        go_wp2_with fail
        refine (alive_any _ HT2.out).mono ?_
        rintro e w3 ⟨rfl, hb3⟩
        have HB3 := hid (HB2.out.trans (hb3.mono HB2.out.size))
        clear hb3
        go_wp2
        go_ret
        exact ⟨rfl, HB3.out⟩

set_option maxRecDepth 100000 in
theorem contract (H : Type) (enc : TypeId × Value → H) (W : World) (base : Nat) (args : Array Value) (ds gs : List (DataW H)) (before : List MemPlace)
    (hval : ∀ (j : Nat) t v, Tryd.f4.params[j]? = some t → args[j]? = some v → Value.okWide Tryd.prog W .any base t v)
    (hW : DataW.Whole enc Tryd.prog Tryd.f4.params.toList Rows.lexisPartsSpec.vars false W args.toList ds gs before) (hL : laidMetH Tryd.prog laidT W)
    (hsz : (DataW.weightsEach Tryd.prog (Tryd.f4.params.toList ++ (OpenSpec.ofChange Rows.lexisPartsSpec).bare.plain.varTypes Tryd.prog) (ds ++ gs)).all (· ≤ reachBytes) = true) :
    Calls Tryd.prog 4 args W fun e W' => ∃ v, e = .returned v ∧ Rows.lexisPartsSpec.post enc Tryd.prog Tryd.f4 false true false false W args v W' := by
  have hW' := hW
  obtain ⟨p, q, hA0, hV, rfl, hfz, hnd⟩ := hW
  have hA : DataW.TrodAll enc Tryd.prog W 0 (fun _ => true) true Tryd.f4.params.toList args.toList ds p := hA0
  rw [Tryd.params4] at hA hval
  rw [Tryd.params4] at hsz
  obtain ⟨v0, vs0, d0, ds0, p0, q0, hargs, rfl, rfl, h0, r0⟩ := trodAll_cons hA
  obtain ⟨rfl, rfl, rfl⟩ := trodAll_nil r0
  obtain rfl : args = #[v0] := by cases args; simp_all
  obtain ⟨rfl, rfl⟩ := trodVars_none hV
  obtain ⟨a0, rfl, rfl, rfl, w0⟩ := open_string Tryd.underlying9 (hval 0 9 v0 rfl rfl) h0
  have z0 : a0.size ≤ 140737488351232 := by simpa [reachBytes] using sized_string hsz (j := 0) (t := 9) rfl rfl
  have hT := tab_of hL
  clear hA0 hL hsz
  simp only [List.append_nil] at hW'
  refine (walk a0 z0 W hT).mono fun e W' ⟨he, hb⟩ => ?_
  subst he
  exact ⟨_, rfl, _, _, _, [], [], [], hW', trodAll_mk1 (shut_bool Tryd.underlying4 _), (trodAll_cons_mk (shut_string Tryd.underlying9 w0) trodAll_mk0), rfl, hb.frame _, fun h => by cases h⟩

theorem reads (os : Os) {H : Type} (enc : TypeId × Value → H) : ∃ places, DataW.whole enc Tryd.prog ((World.doorLaid Tryd.prog 400 os).forCall (fun _ _ => 0) ⟨#[], #[.string ⟨#[]⟩], []⟩).memory Tryd.f4.params.toList Rows.lexisPartsSpec.vars false #[Value.string ⟨#[]⟩].toList 8 = some ([.lit (.string [])], [], places) :=
  ⟨[], by kernel_rfl⟩
theorem laid_met (os : Os) (args : Array Value) : laidMet Tryd.prog Rows.lexisPartsRow.laid ((World.doorLaid Tryd.prog 400 os).forCall (fun _ _ => 0) ⟨#[], args, []⟩).memory :=
  laidMet_of_run' 8 (by kernel_rfl) (by kernel_rfl)

set_option maxRecDepth 100000 in
theorem lifted (os : Os) (started : os.Started) (H : Type) (enc : TypeId × Value → H) (F : Stop.Interp) :
    ReturnsInHanded {} Tryd.checked os 4 .any ((OpenSpec.ofChange Rows.lexisPartsSpec).preRow enc Tryd.prog Tryd.f4 Rows.lexisPartsRow.domain false Rows.lexisPartsRow.laid) (((OpenSpec.ofChange Rows.lexisPartsSpec).at F).post enc Tryd.prog Tryd.f4 false true false false) := by
  obtain ⟨places, hx⟩ := reads os enc
  refine returnsInHanded_of_row (C := Tryd.checked) (s := (OpenSpec.ofChange Rows.lexisPartsSpec)) own started (by kernel_rfl) Tryd.func4
    (witness_row_at (enc := enc) (C := Tryd.checked) false (World.doorLaid Tryd.prog 400 os) #[.string ⟨#[]⟩] rfl (by kernel_rfl) (by kernel_rfl) (by kernel_rfl)
      (OpenSpec.preRow_of_cond 8 hx (by kernel_rfl) (fun k hk => by cases hk) (by kernel_rfl) (laid_met os _))) ?_
  intro W base args ds gs before hval hW _ hcond hsz hL _ _
  exact contract H enc W base args ds gs before hval hW hL hsz

theorem over : Rows.LexisPartsSaid :=
  OpenClaim.holds_of_cond 4 Tryd.f4 rfl rfl rfl rfl rfl rfl rfl ⟨rfl, rfl, rfl, rfl, rfl⟩ rfl rfl rfl rfl rfl (by kernel_rfl) Tryd.func4 (by kernel_rfl)
    (of_decide_eq_true (by kernel_rfl)) (by unfold Func.isWrapper; first | (rw [if_pos (by decide +kernel)]; kernel_rfl) | (rw [if_neg (by decide +kernel)]; exact ⟨rfl, rfl⟩))
    (fun os started H enc _ F => by rw [OpenClaim.pre_eq_preRow]; exact lifted os started H enc F)
theorem plain (f : FuncId) (fn : Func) (hf : Tryd.pinned.checked.prog.funcNamed Rows.lexisPartsRow.func = some f) (hfn : Tryd.pinned.checked.prog.funcs[f]? = some fn) :
    false = Tryd.pinned.checked.prog.looks [] ∧ ∀ (j : Nat) t, fn.params[j]? = some t → Tryd.pinned.checked.prog.wantsStandIn t = false := by
  obtain rfl : f = 4 := Option.some.inj ((show Tryd.prog.funcNamed Rows.lexisPartsRow.func = some 4 by kernel_rfl).symm.trans hf) |>.symm
  obtain rfl : fn = Tryd.f4 := (Option.some.inj (Tryd.func4.symm.trans hfn)).symm
  refine ⟨by kernel_rfl, fun j t ht => ?_⟩
  rw [Tryd.params4] at ht
  have hm : t ∈ [9] := by simpa using Array.mem_of_getElem? ht
  have hall : ([9].all fun u => !Tryd.prog.wantsStandIn u) = true := by kernel_rfl
  exact (show Tryd.prog.wantsStandIn t = false by simpa using List.all_eq_true.1 hall t hm)
end LexisParts

theorem lexisParts_holds : Rows.LexisPartsCardSaid :=
  Claim7.holds_tied_plain_at .later [] _ _ _ _ LexisParts.over (fun _ h => by cases h) (by kernel_rfl) (fun _ h => by cases h) lexisParts_row_tie rfl ⟨rfl, rfl⟩ (by kernel_rfl) rfl LexisParts.plain (by kernel_rfl)
#print axioms lexisParts_holds
end Go.Proofs.YtafjffnijonglaaDoor
