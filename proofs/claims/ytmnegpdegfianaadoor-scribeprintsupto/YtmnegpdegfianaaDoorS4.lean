/- The walk of scribe's Normal: a row of its own, made normal. -/
import Derived.Test.YtmnegpdegfianaaDoorS3
import Derived.Test.YtmnegpdegfianaaDoorS1
import Derived.Test.YtmnegpdegfianaaDoorPSame
import Derived.Deep.RegionLaw
import Derived.Deep.AppendLies
import Derived.Test.YtmnegpdegfianaaDoorS2
import Derived.Test.YtmnegpdegfianaaDoorPShape
import Derived.Lib.SliceRun
import Derived.Lib.LazyBuf
namespace Go.Proofs.YtmnegpdegfianaaDoor
open Go.RowKit Go.Shelf
namespace S
open P L G E
theorem full_text {tx : ByteArray} (h : tx ≠ noB) : tx.toList.isEmpty = false := by
  rw [ByteArray.toList_eq]
  cases q : tx.data.toList with
  | nil => exact absurd (bytes_one (by rw [q]; rfl)) h
  | cons a l => rfl
theorem emptyT_eq (lv kd : Int) (nm tx : ByteArray) (ats : List Attr) : emptyT ⟨lv, kd, nm, tx, ats⟩ = (decide (kd = 2) && decide (tx = noB)) := rfl
end S
set_option maxHeartbeats 1000000 in
theorem empty_any (x : P.Itm) (v : Value) (w : World) (r : Bool) (hr : Hid (S.emptyT x = r)) (hv : ∃ ao n c, v = .slice ao n c) :
    Calls Tryd.prog 39 #[itmV x v] w fun e w' => e = .returned (.bool r) ∧ Below w.heap.size w w' := by
  obtain ⟨lv, kd, nm, tx, ats⟩ := x
  obtain ⟨ao, n, c, rfl⟩ := hv
  unfold itmV
  dsimp only
  rw [S.emptyT_eq] at hr
  have hB : Below w.heap.size w (w.alloc (.cells #[.int .i64 lv, .int .i64 kd, .string nm, .string tx, .slice ao n c] 32)) := below_new w _
  have HB := hid hB
  clear hB
  by_cases h1 : kd = 2
  · subst h1
    by_cases h2 : tx = L.noB
    · subst h2
      obtain rfl : r = true := by rw [← hr.out]; decide
      have h2' : L.noB.toList.isEmpty = true := by rw [ByteArray.toList_eq]; rfl
      clear hr
      go_enter Tryd.func39, Tryd.ntmps39
      go_wp2
      go_ret
      exact ⟨rfl, HB.out⟩
    · obtain rfl : r = false := by rw [← hr.out]; simp [h2]
      have h2' : tx.toList.isEmpty = false := S.full_text h2
      clear hr
      go_enter Tryd.func39, Tryd.ntmps39
      go_wp2
      go_ret
      exact ⟨rfl, HB.out⟩
  · obtain rfl : r = false := by rw [← hr.out]; simp [h1]
    have h1' : (kd == 2) = false := beq_eq_false_iff_ne.2 h1
    clear hr
    go_enter Tryd.func39, Tryd.ntmps39
    go_wp2
    go_ret
    exact ⟨rfl, HB.out⟩
theorem slice_of {x : IV} {l : List IV} {V : Value} {w : World} (I : ItemsIn V l w) (h : x ∈ l) : ∃ ao n c, x.2 = .slice ao n c := by
  obtain ⟨ao, cap, h1, _⟩ := I.2 x h
  exact ⟨_, _, _, h1⟩
set_option maxHeartbeats 2000000 in
set_option maxRecDepth 100000 in
theorem index_any (V : Value) (l : List IV) (w : World) (I : Hid (ItemsIn V l w)) :
    Calls Tryd.prog 66 #[V, .func (.func 39) #[] #[]] w fun e w' => ∃ r : Int, e = .returned (.int .i64 r) ∧ Below w.heap.size w w' ∧ ((r = -1 ∧ ∀ j (h : j < l.length), S.emptyT l[j].1 = false) ∨ ∃ k : Nat, r = (k : Int) ∧ k < l.length ∧ (∀ h : k < l.length, S.emptyT l[k].1 = true) ∧ ∀ j (h : j < l.length), j < k → S.emptyT l[j].1 = false) := by
  obtain ⟨ao, cap, rfl, hl, hc⟩ := I.out.1
  have HC := hid hc
  have HI := I
  clear hc I
  go_enter Tryd.func66, Tryd.ntmps66
  go_wp2
  go_loopw [5, 8] (fun _ v8 X => ∃ q : Nat, v8 = .int .i64 (q : Int) ∧ q ≤ l.length ∧ Hid (∀ j (h : j < l.length), j < q → S.emptyT l[j].1 = false) ∧ Hid (Below w.heap.size w X)) (fun _ v8 _ => l.length - (intOf v8).toNat)
  case atStart => exact ⟨0, rfl, by omega, hid (fun j _ h => by omega), hid (Below.refl _ _)⟩
  case round =>
    obtain ⟨q, rfl, hq, HN, HB⟩ := hrel
    by_cases h1 : q < l.length
    · have h1' : (q : Int) < (l.length : Int) := by omega
      obtain ⟨g, o, rfl, hg, hc⟩ := HC.out (by rintro rfl; simp at h1)
      obtain ⟨k0, k1, k2, k3, k4⟩ := hc q h1
      have c0 := (HB.out.cell (p := ⟨g, o + q * 5, none⟩) hg).trans k0
      have c1 := (HB.out.cell (p := ⟨g, o + q * 5 + 1, none⟩) hg).trans k1
      have c2 := (HB.out.cell (p := ⟨g, o + q * 5 + 2, none⟩) hg).trans k2
      have c3 := (HB.out.cell (p := ⟨g, o + q * 5 + 3, none⟩) hg).trans k3
      have c4 := (HB.out.cell (p := ⟨g, o + q * 5 + 4, none⟩) hg).trans k4
      have HS := hid (slice_of HI.out (List.getElem_mem h1))
      obtain ⟨r, HR⟩ : ∃ r, Hid (S.emptyT l[q].1 = r) := ⟨_, hid rfl⟩
      have CL := hid (empty_any l[q].1 l[q].2 wr r HR HS.out)
      clear hc k0 k1 k2 k3 k4
      obtain ⟨ao2, n2, cp2, he⟩ := HS.out
      rw [he] at c4
      have HE := hid he
      clear he
      go_wp2_with fail
      rw [← HE.out]
      refine CL.out.mono ?_
      rintro e w1 ⟨rfl, hb1⟩
      have HB1 := hid (HB.out.trans (hb1.mono HB.out.size))
      clear hb1 CL c0 c1 c2 c3 c4
      cases r with
      | true =>
        go_wp2
        go_ret
        exact ⟨_, rfl, HB1.out, .inr ⟨q, rfl, h1, fun _ => HR.out, HN.out⟩⟩
      | false =>
        go_wp2
        go_roundw
        case rel =>
          refine ⟨q + 1, by go_num, by omega, hid (fun j h hj => ?_), HB1⟩
          rcases Nat.lt_or_ge j q with a | a
          · exact HN.out j h a
          · obtain rfl : j = q := by omega
            exact HR.out
        case measure => (simp [intOf]; try omega)
    · have h1' : ¬ (q : Int) < (l.length : Int) := by omega
      go_wp2
      go_ret
      exact ⟨_, rfl, HB.out, .inl ⟨rfl, fun j h => HN.out j h (by omega)⟩⟩
theorem infoItm : (Tryd.prog.info? 32).map (fun i => (i.zero, i.size, i.bytes)) = some (some (.agg #[.int .i64 0, .int .i64 0, .string ⟨#[]⟩, .string ⟨#[]⟩, .slice none 0 0]), 5, 72) := by kernel_rfl
theorem one_items : ∀ {l : List IV}, (∀ x ∈ l, ∃ ao n c, x.2 = .slice ao n c) → ∀ u ∈ encI l, u.oneCell' = true
  | [], _, u, h => by simp [encI] at h
  | x :: l, hx, u, h => by
    obtain ⟨ao, n, c, e⟩ := hx x (List.mem_cons_self ..)
    simp only [encI, List.flatMap_cons, List.mem_append] at h
    rcases h with h | h
    · simp only [encI1, e, List.mem_cons, List.not_mem_nil, or_false] at h
      rcases h with rfl | rfl | rfl | rfl | rfl <;> rfl
    · exact one_items (fun y hy => hx y (List.mem_cons_of_mem _ hy)) u h
theorem encI_length (l : List IV) : (encI l).length = l.length * 5 := by
  induction l with
  | nil => rfl
  | cons a l ih => simp only [encI, List.flatMap_cons, List.length_append, List.length_cons] at *; rw [ih]; simp [encI1]; omega
set_option maxHeartbeats 2000000 in
set_option maxRecDepth 100000 in
theorem clone_any (V : Value) (l : List IV) (w : World) (I : Hid (ItemsIn V l w)) (hn : l.length * 72 ≤ 140737488355328) :
    Calls Tryd.prog 38 #[V] w fun e w' => ∃ V', e = .returned V' ∧ w'.ownsRow w.heap.size 32 5 V' l.length (encI l) ∧ Below w.heap.size w w' := by
  obtain ⟨ao, cap, rfl, hl, hc⟩ := I.out.1
  obtain ⟨i0, I0, I1, I2, I3⟩ := info_parts infoItm
  have q22 : ∀ (w : World) (a : Option Addr) (n c n' c' : Nat), (binOp .eql 22 (.slice a n c) (.slice none n' c')).run Tryd.prog w = .ok (.bool a.isNone) w := fun w a n c n' c' => Lib.run_eql_slice_nil w _ _ a n c n' c' Tryd.underlying22
  cases ao with
  | none =>
    obtain rfl : l = [] := by
      by_cases q : l = []
      · exact q
      · obtain ⟨g, o, h, _⟩ := hc q
        cases h
    clear hc I
    go_enter Tryd.func38, Tryd.ntmps38
    go_wp2
    go_ret
    exact ⟨_, rfl, ⟨by simp [encI], Or.inl ⟨rfl, rfl⟩⟩, Below.refl _ _⟩
  | some a =>
    have HC : Hid (∀ j u, (encI l)[j]? = some u → w.cell? (a.add j) = some u) := hid (by
      intro j u hu
      have hj : j < l.length * 5 := by
        have := (List.getElem?_eq_some_iff.1 hu).1
        rwa [encI_length] at this
      obtain ⟨g, o, e, hg, hd⟩ := hc (by rintro rfl; simp at hj)
      simp only [Option.some.injEq] at e
      subst e
      rw [Addr.add_lit]
      obtain ⟨q, s, hs, rfl⟩ : ∃ q s, s < 5 ∧ j = q * 5 + s := ⟨j / 5, j % 5, Nat.mod_lt _ (by decide), by omega⟩
      have hq : q < l.length := by omega
      obtain ⟨k0, k1, k2, k3, k4⟩ := hd q hq
      obtain ⟨e0, e1, e2, e3, e4⟩ := encI_at l q hq
      match s, hs with
      | 0, _ => rw [Nat.add_zero] at hu ⊢; rw [e0] at hu; rw [k0]; exact hu
      | 1, _ => rw [e1] at hu; rw [← Nat.add_assoc, k1]; exact hu
      | 2, _ => rw [e2] at hu; rw [← Nat.add_assoc, k2]; exact hu
      | 3, _ => rw [e3] at hu; rw [← Nat.add_assoc, k3]; exact hu
      | 4, _ => rw [e4] at hu; rw [← Nat.add_assoc, k4]; exact hu)
    have H1 := hid (one_items (fun x hx => slice_of I.out hx))
    clear hc I
    go_enter Tryd.func38, Tryd.ntmps38
    go_wp2_with (at_builtin; refine wpList_append_own _ rfl _ _ 22 rfl w.heap.size 32 i0 (.agg #[.int .i64 0, .int .i64 0, .string ⟨#[]⟩, .string ⟨#[]⟩, .slice none 0 0]) 5 72 Tryd.underlying22 I0 I1 I2 I3 rfl (by decide) _ _ _ rfl (World.ownsRow_made w #[] 0 (Nat.le_refl _) (Nat.zero_le _) (by simp)) a l.length cap (encI l) rfl ?qc1 ?qc2 ?qc3 ?qc4 ?qc5 ?qc6 ?_)
    case qc1 => exact encI_length l
    case qc2 =>
      intro j u hj
      exact Lib.cell?_alloc_some _ (HC.out j u hj)
    case qc3 => exact H1.out
    case qc4 => unfold maxLen; omega
    case qc5 => omega
    case qc6 => simp
    intro v' w1 hown hgrow hnil
    go_wp2
    go_ret
    refine ⟨v', rfl, by simpa using hown, ?_⟩
    exact ((Below.refl _ w).alloc (Nat.le_refl _) _).grown hgrow (by simp) (by intro k hk; simp [Value.ownBlock] at hk; omega)
end Go.Proofs.YtmnegpdegfianaaDoor
namespace Go.Proofs.YtmnegpdegfianaaDoor
open Go.RowKit Go.Shelf
set_option maxHeartbeats 4000000 in
set_option maxRecDepth 100000 in
theorem run_any (V : Value) (l : List IV) (w : World) (I : Hid (ItemsIn V l w)) (h0 : l ≠ []) :
    Calls Tryd.prog 40 #[V] w fun e w' => e = .returned (.int .i64 ((S.runL (l.map (·.1)) : Nat) : Int)) ∧ Below w.heap.size w w' := by
  obtain ⟨ao, cap, rfl, hl, hc⟩ := I.out.1
  obtain ⟨g, o, rfl, hg, hc⟩ := hc h0
  have HC := hid hc
  have hpos : 0 < l.length := List.length_pos_iff.2 h0
  clear hc I h0
  obtain ⟨x0, x1, _, _, _⟩ := HC.out 0 hpos
  obtain ⟨lv0, e0⟩ : ∃ z, l[0].1.level = z := ⟨_, rfl⟩
  obtain ⟨kd0, e1⟩ : ∃ z, l[0].1.kind = z := ⟨_, rfl⟩
  rw [e0] at x0
  rw [e1] at x1
  simp only [Nat.zero_mul, Nat.add_zero] at x0 x1
  have HJ : Hid (∀ j (h : j < l.length), S.joinB l[0].1 l[j].1 = decide (l[j].1.kind = 2 ∧ kd0 = 2 ∧ lv0 = l[j].1.level)) := hid (fun j h => by unfold S.joinB; rw [e0, e1])
  clear e0 e1
  have HX : Hid (w.cell? ⟨g, o, none⟩ = some (.int .i64 lv0) ∧ w.cell? ⟨g, o + 1, none⟩ = some (.int .i64 kd0)) := hid ⟨x0, x1⟩
  clear x0 x1
  have hl0 : (0 : Int) < (l.length : Int) := by omega
  go_enter Tryd.func40, Tryd.ntmps40
  go_wp2
  go_loopw [3] (fun v3 X => ∃ q : Nat, v3 = .int .i64 (q : Int) ∧ 1 ≤ q ∧ q ≤ l.length ∧ Hid (∀ j (h : j < l.length), 1 ≤ j → j < q → S.joinB l[0].1 l[j].1 = true) ∧ Hid (∃ m, X = w.drewN m)) (fun v3 _ => l.length - (intOf v3).toNat)
  case atStart => exact ⟨1, rfl, by omega, by omega, hid (fun j _ _ _ => by omega), hid ⟨0, rfl⟩⟩
  case round =>
    obtain ⟨q, rfl, hq1, hq, HN, HM⟩ := hrel
    have done : ∀ (hf : ∀ h : q < l.length, S.joinB l[0].1 l[q].1 = false), S.runL (l.map (·.1)) = q := fun hf => S.runL_at hq1 (by simpa using hq) (fun j h _ a b => by simpa using HN.out j (by simpa using h) a b) (fun h _ => by simpa using hf (by simpa using h))
    have HDN := hid done
    clear done
    have b0 : wr.cell? ⟨g, o, none⟩ = some (.int .i64 lv0) := by obtain ⟨m, hm⟩ := HM.out; rw [hm]; exact HX.out.1
    have b1 : wr.cell? ⟨g, o + 1, none⟩ = some (.int .i64 kd0) := by obtain ⟨m, hm⟩ := HM.out; rw [hm]; exact HX.out.2
    by_cases h : q < l.length
    · have h' : (q : Int) < (l.length : Int) := by omega
      obtain ⟨k0, k1, _, _, _⟩ := HC.out q h
      have c0 : wr.cell? ⟨g, o + q * 5, none⟩ = some (.int .i64 l[q].1.level) := by obtain ⟨m, hm⟩ := HM.out; rw [hm]; exact k0
      have c1 : wr.cell? ⟨g, o + q * 5 + 1, none⟩ = some (.int .i64 l[q].1.kind) := by obtain ⟨m, hm⟩ := HM.out; rw [hm]; exact k1
      have HJQ := hid (HJ.out q h)
      clear k0 k1
      generalize l[q].1.level = lv at *
      generalize l[q].1.kind = kd at *
      by_cases g1 : kd0 = 2
      · have g1' : (kd0 == 2) = true := beq_iff_eq.2 g1
        by_cases g2 : kd = 2
        · have g2' : (kd == 2) = true := beq_iff_eq.2 g2
          by_cases g3 : lv = lv0
          · have g3' : (lv == lv0) = true := beq_iff_eq.2 g3
            have HY : Hid (S.joinB l[0].1 l[q].1 = true) := hid (by rw [HJQ.out]; simp [g1, g2, g3])
            clear g1 g2 g3 HJQ HDN
            go_wp2_with fail
            go_quiet (fail)
            go_wp2
            go_roundw
            case rel =>
              refine ⟨q + 1, by go_num, by omega, by omega, hid (fun j hj a b => ?_), hid (more_drewS HM.out _)⟩
              rcases Nat.lt_or_ge j q with t | t
              · exact HN.out j hj a t
              · obtain rfl : j = q := by omega
                exact HY.out
            case measure => (simp [intOf]; try omega)
          · have g3' : (lv == lv0) = false := beq_eq_false_iff_ne.2 g3
            have HR := hid (HDN.out (fun _ => by rw [HJQ.out]; simp; intro _ _ e; exact g3 e.symm))
            clear g1 g2 g3 HJQ HDN
            go_wp2_with fail
            go_quiet (fail)
            go_wp2
            go_ret
            exact ⟨by rw [HR.out]; rfl, by obtain ⟨m, hm⟩ := HM.out; rw [hm]; exact below_drewN (below_drewN (Below.refl _ _) _) _⟩
        · have g2' : (kd == 2) = false := beq_eq_false_iff_ne.2 g2
          have HR := hid (HDN.out (fun _ => by rw [HJQ.out]; simp [g2]))
          clear g1 g2 HJQ HDN
          go_wp2_with fail
          go_quiet (fail)
          go_wp2
          go_ret
          exact ⟨by rw [HR.out]; rfl, by obtain ⟨m, hm⟩ := HM.out; rw [hm]; exact below_drewN (below_drewN (Below.refl _ _) _) _⟩
      · have g1' : (kd0 == 2) = false := beq_eq_false_iff_ne.2 g1
        have HR := hid (HDN.out (fun _ => by rw [HJQ.out]; simp [g1]))
        clear g1 HJQ HDN
        go_wp2_with fail
        go_quiet (fail)
        go_wp2
        go_ret
        exact ⟨by rw [HR.out]; rfl, by obtain ⟨m, hm⟩ := HM.out; rw [hm]; exact below_drewN (below_drewN (Below.refl _ _) _) _⟩
    · have h' : ¬ (q : Int) < (l.length : Int) := by omega
      have HR := hid (HDN.out (fun t => absurd t h))
      clear HDN
      go_wp2_with fail
      go_quiet (fail)
      go_wp2
      go_ret
      exact ⟨by rw [HR.out]; rfl, by obtain ⟨m, hm⟩ := HM.out; rw [hm]; exact below_drewN (below_drewN (Below.refl _ _) _) _⟩
end Go.Proofs.YtmnegpdegfianaaDoor
namespace Go.Proofs.YtmnegpdegfianaaDoor
open Go.RowKit Go.Shelf
theorem step_calls {P : Program} {ops : Array Oper} {o : Oper} {a : Act} {w : World} {K : Act → World → Prop} {Q : Exit → Act → World → Prop} {E : Prop}
    (hg : o.guard = none) (n : FuncId) (xs : Array Operand) (ts : Array TypeId) (hop : o.op = Op.call { callee := Callee.value (Operand.func n), args := xs, argTypes := ts })
    (eg : ∀ args w, (callFunc n args).run P w = .ok (.enter n args) w) (vs : Array Value) (hx : xs.map a.eval = vs) (R : Value → World → Prop) (hC : Calls P n vs w fun e w' => ∃ v, e = .returned v ∧ R v w') (hK : ∀ v w', R v w' → K (a.put o.dst v) w') :
    if Region.wanted o (yielded ops a.tmps) = true then Oper.wp P o a w K Q else E := by
  have hw : Region.wanted o (yielded ops a.tmps) = true := by simp [Region.wanted, hg]
  rw [if_pos hw]
  subst hx
  unfold Oper.wp
  simp [execOp, hop, resolve, invoke, Deferred.ofValue, eg, Act.eval]
  rw [Oper.upon_enter]
  refine hC.mono ?_
  rintro e w' ⟨v, rfl, hr⟩
  exact hK v w' hr
theorem step_calls1 {P : Program} {ops : Array Oper} {o : Oper} {a : Act} {w : World} {K : Act → World → Prop} {Q : Exit → Act → World → Prop} {E : Prop}
    (hg : o.guard = none) (n : FuncId) (x : Operand) (ts : Array TypeId) (hop : o.op = Op.call { callee := Callee.value (Operand.func n), args := #[x], argTypes := ts })
    (eg : ∀ args w, (callFunc n args).run P w = .ok (.enter n args) w) (v : Value) (hx : a.eval x = v) (R : Value → World → Prop) (hC : Calls P n #[v] w fun e w' => ∃ v, e = .returned v ∧ R v w') (hK : ∀ v w', R v w' → K (a.put o.dst v) w') :
    if Region.wanted o (yielded ops a.tmps) = true then Oper.wp P o a w K Q else E :=
  step_calls hg n #[x] ts hop eg #[v] (by simp [hx]) R hC hK
end Go.Proofs.YtmnegpdegfianaaDoor
namespace Go.Proofs.YtmnegpdegfianaaDoor
open Go.RowKit Go.Shelf
theorem row_kept {base : Nat} {e : TypeId} {size n b : Nat} {v : Value} {xs : List Value} {w w' : World} {ob : Obj} (h : w.ownsRow base e size v n xs) (hk : Lib.OthersKept 5 (some b) w w') (h0 : e ≠ 5) (hb : w.heap[b]? = some ob) (hn : ∀ c f, ob ≠ .cells c e f) : w'.ownsRow base e size v n xs := by
  obtain ⟨h1, h2⟩ := h
  refine ⟨h1, ?_⟩
  rcases h2 with h2 | ⟨g, cap, cur, h3, h4, h5, h6⟩
  · exact Or.inl h2
  · refine Or.inr ⟨g, cap, cur, h3, h4, hk g _ h5 (fun q => ?_) (fun c f q => ?_), h6⟩
    · simp only [Option.some.injEq] at q
      subst q
      rw [h5] at hb
      simp only [Option.some.injEq] at hb
      exact hn _ _ hb.symm
    · simp only [Obj.cells.injEq] at q
      exact h0 q.2.1
theorem page_block {B b : Nat} {l : List UInt8} {w : World} (h : PageAt B b l w) : ∃ cs f, w.heap[b]? = some (.cells cs 60 f) := by
  rcases h with ⟨_, v, hb, _⟩ | ⟨_, v, hb, _⟩
  · exact ⟨_, _, hb⟩
  · exact ⟨_, _, hb⟩
/-- A block of another type than a page's stays. -/
theorem block_kept {B b g : Nat} {t : TypeId} {f : Nat × Nat} {l : List UInt8} {cs : Array Value} {w w' : World} (h : PageAt B b l w) (hk : Lib.OthersKept 5 (some b) w w') (hg : w.heap[g]? = some (.cells cs t f)) (h0 : t ≠ 5) (h1 : t ≠ 60) : w'.heap[g]? = some (.cells cs t f) := by
  obtain ⟨ps, pf, hb⟩ := page_block h
  refine hk g _ hg (fun q => ?_) (fun c f q => ?_)
  · simp only [Option.some.injEq] at q
    subst q
    rw [hg] at hb
    simp only [Option.some.injEq, Obj.cells.injEq] at hb
    exact h1 hb.2.1
  · simp only [Obj.cells.injEq] at q
    exact h0 q.2.1
theorem itm_kept {B b base : Nat} {V : Value} {l : List IV} {acc : List UInt8} {w w' : World} (h : PageAt B b acc w) (hk : Lib.OthersKept 5 (some b) w w') (hr : ItmRow base V l w) : ItmRow base V l w' := by
  obtain ⟨ps, pf, hb⟩ := page_block h
  exact ⟨row_kept hr.1 hk (by decide) hb (fun c f q => by simp only [Obj.cells.injEq] at q; exact absurd q.2.1 (by decide)), fun x hx => row_kept (hr.2 x hx) hk (by decide) hb (fun c f q => by simp only [Obj.cells.injEq] at q; exact absurd q.2.1 (by decide))⟩
/-- What the printer works with: its page, the boxes that it holds, the row. -/
structure PG (b bl bp bw base : Nat) (V : Value) (l : List IV) (acc : List UInt8) (W0 w : World) : Prop where
  tab : Tab W0
  start : b = W0.heap.size
  below : Below W0.heap.size W0 w
  page : PageAt b b acc w
  row : w.heap[bl]? = some (.cells #[V] 22 (0, 0))
  put : w.heap[bp]? = some (.cells #[.func (.func 28) #[.pointer (some ⟨b, 0, none⟩)] #[]] 61 (0, 0))
  self : w.heap[bw]? = some (.cells #[.func (.func 29) #[] #[.pointer (some ⟨bl, 0, none⟩), .pointer (some ⟨bp, 0, none⟩), .pointer (some ⟨bw, 0, none⟩)]] 62 (0, 0))
  items : ItmRow base V l w
section
variable {b bl bp bw base : Nat} {V : Value} {l : List IV} {acc : List UInt8} {W0 w : World}
theorem PG.le (h : PG b bl bp bw base V l acc W0 w) : b ≤ w.heap.size := by rw [h.start]; exact h.below.size
theorem PG.tabw (h : PG b bl bp bw base V l acc W0 w) : Tab w := h.tab.below h.below
theorem PG.kept {acc' : List UInt8} {w' : World} (h : PG b bl bp bw base V l acc W0 w) (hk : Lib.OthersKept 5 (some b) w w') (hb : Below b w w') (hp : PageAt b b acc' w') : PG b bl bp bw base V l acc' W0 w' :=
  ⟨h.tab, h.start, h.below.trans (by rw [← h.start]; exact hb), hp, block_kept h.page hk h.row (by decide) (by decide), block_kept h.page hk h.put (by decide) (by decide), block_kept h.page hk h.self (by decide) (by decide), itm_kept h.page hk h.items⟩
theorem PG.quiet {w' : World} (h : PG b bl bp bw base V l acc W0 w) (hb : Below w.heap.size w w') : PG b bl bp bw base V l acc W0 w' := h.kept (kept_below hb) (hb.mono h.le) (page_below h.page hb)
end
end Go.Proofs.YtmnegpdegfianaaDoor
namespace Go.Proofs.YtmnegpdegfianaaDoor
open Go.RowKit Go.Shelf
theorem infoAtt : (Tryd.prog.info? 34).map (fun i => (i.zero, i.size, i.bytes)) = some (some (.agg #[.string ⟨#[]⟩, .string ⟨#[]⟩]), 2, 32) := by kernel_rfl
namespace S
theorem texts_take {l : List P.Itm} {q : Nat} (h : q < l.length) : texts (l.take (q + 1)) = texts (l.take q) ++ l[q].text.data.toList := by
  rw [List.take_succ_eq_append_getElem h, texts_app]
  simp [texts]
end S
/-- What joined works with: its page, the item, the answer's cell. -/
structure JW (B bz : Nat) (s : List UInt8) (it : Array Value) (w X : World) : Prop where
  below : Below w.heap.size w X
  start : B = w.heap.size
  page : PageAt (B + 1) (B + 1) s X
  item : X.heap[bz]? = some (.cells it 32 (0, 0))
  told : X.heap[B]? = some (.cells #[.int .i64 0, .int .i64 0, .string ⟨#[]⟩, .string ⟨#[]⟩, .slice none 0 0] 32 (0, 0))
  size : B + 1 ≤ X.heap.size
  ne : bz ≠ B
section
variable {B bz : Nat} {s : List UInt8} {it : Array Value} {w X X' : World}
theorem JW.next (h : JW B bz s it w X) (hb : Below X.heap.size X X') : JW B bz s it w X' :=
  ⟨h.below.trans (hb.mono h.below.size), h.start, page_below h.page hb, (hb.block bz (lt_of_block h.item)).trans h.item, (hb.block B (lt_of_block h.told)).trans h.told, Nat.le_trans h.size hb.size, h.ne⟩
theorem JW.str (h : JW B bz s it w X) (hp : PageAt (B + 1) (B + 1) s X') (hb : Below (B + 1) X X') (hk : Lib.OthersKept 5 (some (B + 1)) X X') : JW B bz s it w X' :=
  ⟨h.below.trans (hb.mono (by rw [h.start]; omega)), h.start, hp, block_kept h.page hk h.item (by decide) (by decide), block_kept h.page hk h.told (by decide) (by decide), Nat.le_trans h.size hb.size, h.ne⟩
theorem JW.row {v : Value} {n : Nat} {xs : List Value} (h : JW B bz s it w X) (hk : Lib.OthersKept 5 (some (B + 1)) X X') (hr : X.ownsRow w.heap.size 34 2 v n xs) : X'.ownsRow w.heap.size 34 2 v n xs := by
  obtain ⟨ps, pf, hb⟩ := page_block h.page
  exact row_kept hr hk (by decide) hb (fun c f q => by simp only [Obj.cells.injEq] at q; exact absurd q.2.1 (by decide))
end
set_option maxHeartbeats 4000000 in
set_option maxRecDepth 100000 in
theorem joined_any (V : Value) (l : List IV) (w : World) (I : Hid (ItemsIn V l w)) (h0 : l ≠ []) (hlen : (S.texts (l.map (·.1))).length ≤ 140737488355328) (ha : ∀ x ∈ l, x.1.attrs.length * 32 ≤ 140737488355328) :
    Calls Tryd.prog 41 #[V] w fun e w' => ∃ v', e = .returned (itmV (S.oneL (l.map (·.1))) v') ∧ w'.ownsRow w.heap.size 34 2 v' (S.oneL (l.map (·.1))).attrs.length (encL (S.oneL (l.map (·.1))).attrs) ∧ Below w.heap.size w w' := by
  obtain ⟨ao, cap, rfl, hl, hc⟩ := I.out.1
  obtain ⟨g, o, rfl, hg, hc⟩ := hc h0
  have HC := hid hc
  have hpos : 0 < l.length := List.length_pos_iff.2 h0
  have hl0 : (0 : Int) < (l.length : Int) := by omega
  have HL := hid hlen
  have HG := hid hg
  obtain ⟨m, HM⟩ : ∃ m, Hid (l.map (·.1) = m) := ⟨_, hid rfl⟩
  rw [HM.out] at HL ⊢
  have hml : m.length = l.length := by rw [← HM.out]; simp
  have HML := hid hml
  have HMQ : Hid (∀ q (h : q < l.length) (h' : q < m.length), l[q].1 = m[q]) := hid (fun q h h' => by have := HM.out; subst this; simp)
  have HS : Hid (∀ x ∈ l, ∃ ao n c, x.2 = .slice ao n c) := hid (fun x hx => slice_of I.out hx)
  clear hc h0 hlen hg hml
  go_enter Tryd.func41, Tryd.ntmps41
  go_wp2_with fail
  have hA := below_new w (.cells #[.int .i64 0, .int .i64 0, .string ⟨#[]⟩, .string ⟨#[]⟩, .slice none 0 0] 32)
  have hP := page_new (w.alloc (.cells #[.int .i64 0, .int .i64 0, .string ⟨#[]⟩, .string ⟨#[]⟩, .slice none 0 0] 32))
  have hP2 := below_new (w.alloc (.cells #[.int .i64 0, .int .i64 0, .string ⟨#[]⟩, .string ⟨#[]⟩, .slice none 0 0] 32)) (.cells #[.pointer none, .slice none 0 0] 60)
  have oI := heap_alloc_new w (.cells #[.int .i64 0, .int .i64 0, .string ⟨#[]⟩, .string ⟨#[]⟩, .slice none 0 0] 32)
  have hWs : (w.alloc (.cells #[.int .i64 0, .int .i64 0, .string ⟨#[]⟩, .string ⟨#[]⟩, .slice none 0 0] 32)).heap.size = w.heap.size + 1 := by simp
  generalize w.alloc (.cells #[.int .i64 0, .int .i64 0, .string ⟨#[]⟩, .string ⟨#[]⟩, .slice none 0 0] 32) = W at *
  rw [hWs] at hP hP2
  have HA := hid hA
  have HWS := hid hWs
  have HP0 : Hid (PageAt (w.heap.size + 1) (w.heap.size + 1) (S.texts (m.take 0)) (W.alloc (.cells #[.pointer none, .slice none 0 0] 60))) := hid hP
  have HB0 : Hid (Below (w.heap.size + 1) W (W.alloc (.cells #[.pointer none, .slice none 0 0] 60))) := hid hP2
  have OI := hid oI
  clear hA hP hP2 oI hWs
  go_loopw [14] (fun v14 X => ∃ q : Nat, v14 = .int .i64 (q : Int) ∧ q ≤ l.length ∧ Hid (PageAt (w.heap.size + 1) (w.heap.size + 1) (S.texts (m.take q)) X) ∧ Hid (Below (w.heap.size + 1) W X)) (fun v14 _ => l.length - (intOf v14).toNat)
  case atStart => exact ⟨0, rfl, by omega, HP0, HB0⟩
  case round =>
    clear HP0 HB0
    obtain ⟨q, rfl, hq, HP, HB⟩ := hrel
    have HBw : Hid (Below w.heap.size w wr) := hid (HA.out.trans (HB.out.mono (by omega)))
    have hsz : w.heap.size + 1 ≤ wr.heap.size := by have := HB.out.size; rw [HWS.out] at this; exact this
    by_cases h1 : q < l.length
    · have h1' : (q : Int) < (l.length : Int) := by omega
      have hqm : q < m.length := by rw [HML.out]; exact h1
      obtain ⟨k0, k1, k2, k3, k4⟩ := HC.out q h1
      rw [HMQ.out q h1 hqm] at k0 k1 k2 k3
      have c0 := (HBw.out.cell (p := ⟨g, o + q * 5, none⟩) HG.out).trans k0
      have c1 := (HBw.out.cell (p := ⟨g, o + q * 5 + 1, none⟩) HG.out).trans k1
      have c2 := (HBw.out.cell (p := ⟨g, o + q * 5 + 2, none⟩) HG.out).trans k2
      have c3 := (HBw.out.cell (p := ⟨g, o + q * 5 + 3, none⟩) HG.out).trans k3
      have c4 := (HBw.out.cell (p := ⟨g, o + q * 5 + 4, none⟩) HG.out).trans k4
      obtain ⟨aq, nq, cq, eq⟩ := HS.out _ (List.getElem_mem h1)
      rw [eq] at c4
      have HT := hid (S.texts_take hqm)
      have HLE : Hid ((S.texts (m.take q)).length + m[q].text.size ≤ 140737488355328) := hid (by
        have a := S.texts_take_le m (q + 1)
        rw [HT.out] at a
        have b := HL.out
        simp only [List.length_append, Array.length_toList, ByteArray.size_data] at a
        omega)
      clear k0 k1 k2 k3 k4 eq
      generalize m[q].level = lv at *
      generalize m[q].kind = kd at *
      generalize m[q].name = nm at *
      generalize m[q].text = tx at *
      go_wp2_with fail
      have hx := below_new wr (.cells #[.int .i64 lv, .int .i64 kd, .string nm, .string tx, .slice aq nq cq] 32)
      have hxs : (wr.alloc (.cells #[.int .i64 lv, .int .i64 kd, .string nm, .string tx, .slice aq nq cq] 32)).heap.size = wr.heap.size + 1 := by simp
      generalize wr.alloc (.cells #[.int .i64 lv, .int .i64 kd, .string nm, .string tx, .slice aq nq cq] 32) = X at *
      refine (put1 (w.heap.size + 1) (w.heap.size + 1) _ tx X _ hxs.symm (page_below HP.out hx) (Nat.le_trans hsz hx.size) HLE.out).mono ?_
      rintro e w1 ⟨rfl, p1, b1, _⟩
      have HP1 : Hid (PageAt (w.heap.size + 1) (w.heap.size + 1) (S.texts (m.take (q + 1))) w1) := hid (by rw [HT.out]; exact p1)
      have HB1 : Hid (Below (w.heap.size + 1) W w1) := hid (HB.out.trans ((hx.mono hsz).trans b1))
      clear p1 b1 hx hxs HP HB HT HLE c0 c1 c2 c3 c4
      go_wp2
      go_roundw
      case rel => exact ⟨q + 1, by go_num, by omega, HP1, HB1⟩
      case measure => (simp [intOf]; try omega)
    · have h1' : ¬ (q : Int) < (l.length : Int) := by omega
      obtain rfl : q = l.length := by omega
      have HP1 := HP.out
      rw [show m.take l.length = m by rw [← HML.out]; exact List.take_length] at HP1
      have HPM := hid HP1
      have hm0 : 0 < m.length := by rw [HML.out]; exact hpos
      obtain ⟨k0, k1, k2, k3, k4⟩ := HC.out 0 hpos
      rw [HMQ.out 0 hpos hm0] at k0 k1 k2 k3
      simp only [Nat.zero_mul, Nat.add_zero] at k0 k1 k2 k3 k4
      have c0 := (HBw.out.cell (p := ⟨g, o, none⟩) HG.out).trans k0
      have c1 := (HBw.out.cell (p := ⟨g, o + 1, none⟩) HG.out).trans k1
      have c2 := (HBw.out.cell (p := ⟨g, o + 2, none⟩) HG.out).trans k2
      have c3 := (HBw.out.cell (p := ⟨g, o + 3, none⟩) HG.out).trans k3
      have c4 := (HBw.out.cell (p := ⟨g, o + 4, none⟩) HG.out).trans k4
      have HAI : Hid (AttrsIn l[0].2 m[0].attrs w) := hid (by rw [← HMQ.out 0 hpos hm0]; exact I.out.2 _ (List.getElem_mem hpos))
      have HA0 : Hid (m[0].attrs.length * 32 ≤ 140737488355328) := hid (by rw [← HMQ.out 0 hpos hm0]; exact ha _ (List.getElem_mem hpos))
      have HONE : Hid (S.oneL m = { m[0] with text := S.bA (S.texts m) }) := hid (by
        cases m with
        | nil => simp at hm0
        | cons x m => rfl)
      clear HP HP1 k0 k1 k2 k3 k4
      generalize m[0] = x at *
      obtain ⟨lv, kd, nm, tx, ats⟩ := x
      dsimp only at *
      generalize l[0].2 = va at *
      obtain ⟨aa, ca, rfl, hla, hca⟩ := HAI.out
      have HCA := hid hca
      clear hca HAI
      go_wp2_with fail
      have hn := below_new wr (.cells #[.int .i64 lv, .int .i64 kd, .string nm, .string tx, .slice aa ats.length ca] 32)
      have on := heap_alloc_new wr (.cells #[.int .i64 lv, .int .i64 kd, .string nm, .string tx, .slice aa ats.length ca] 32)
      have hOI : wr.heap[w.heap.size]? = _ := (HB.out.block w.heap.size (by omega)).trans OI.out
      have J0 : Hid (JW w.heap.size wr.heap.size (S.texts m) #[.int .i64 lv, .int .i64 kd, .string nm, .string tx, .slice aa ats.length ca] w (wr.alloc (.cells #[.int .i64 lv, .int .i64 kd, .string nm, .string tx, .slice aa ats.length ca] 32))) := hid ⟨HBw.out.trans (hn.mono HBw.out.size), rfl, page_below HPM.out hn, on, (hn.block w.heap.size (by omega)).trans hOI, Nat.le_trans hsz hn.size, by omega⟩
      generalize wr.alloc (.cells #[.int .i64 lv, .int .i64 kd, .string nm, .string tx, .slice aa ats.length ca] 32) = Z at *
      clear hn on hOI OI HB HPM c0 c1 c2 c3 c4
      have JD : Hid (JW w.heap.size wr.heap.size (S.texts m) #[.int .i64 lv, .int .i64 kd, .string nm, .string tx, .slice aa ats.length ca] w Z.drew) := hid (J0.out.next (Below.drew (Below.refl _ _)))
      have EG : Hid (∀ args w, (callFunc 34 args).run Tryd.prog w = .ok (.enter 34 args) w) := hid (enters_of Tryd.func34 (by kernel_rfl) rfl)
      have z0 : Z.cell? ⟨wr.heap.size, 0, none⟩ = some (.int .i64 lv) := by rw [Lib.cell_of_heap J0.out.item]; rfl
      have z1 : Z.cell? ⟨wr.heap.size, 1, none⟩ = some (.int .i64 kd) := by rw [Lib.cell_of_heap J0.out.item]; rfl
      have z2 : Z.cell? ⟨wr.heap.size, 2, none⟩ = some (.string nm) := by rw [Lib.cell_of_heap J0.out.item]; rfl
      have z3 : Z.cell? ⟨wr.heap.size, 3, none⟩ = some (.string tx) := by rw [Lib.cell_of_heap J0.out.item]; rfl
      have z4 : Z.cell? ⟨wr.heap.size, 4, none⟩ = some (.slice aa ats.length ca) := by rw [Lib.cell_of_heap J0.out.item]; rfl
      by_cases hat : ats = []
      · subst hat
        simp only [List.length_nil] at *
        cases aa with
        | none =>
          go_region_law (
            refine step_calls1 rfl 34 (.tmp 29) _ rfl EG.out (.pointer (some ⟨w.heap.size + 1, 0, none⟩)) rfl (fun v w' => v = .string (S.bA (S.texts m)) ∧ JW w.heap.size wr.heap.size (S.texts m) #[.int .i64 lv, .int .i64 kd, .string nm, .string tx, .slice none 0 ca] w w') (by
              refine (pageString_any _ _ _ _ JD.out.page JD.out.size).mono ?_
              rintro e w5 ⟨rfl, p5, b5, k5⟩
              exact ⟨_, rfl, rfl, JD.out.str p5 b5 k5⟩) ?_
            rintro v w5 ⟨rfl, j5⟩
            have J5 := hid j5
            have yw50 : w5.cell? ⟨wr.heap.size, 0, none⟩ = some (.int .i64 lv) := by rw [Lib.cell_of_heap J5.out.item]; rfl
            have yw51 : w5.cell? ⟨wr.heap.size, 1, none⟩ = some (.int .i64 kd) := by rw [Lib.cell_of_heap J5.out.item]; rfl
            have yw52 : w5.cell? ⟨wr.heap.size, 2, none⟩ = some (.string nm) := by rw [Lib.cell_of_heap J5.out.item]; rfl
            have yw53 : w5.cell? ⟨wr.heap.size, 3, none⟩ = some (.string tx) := by rw [Lib.cell_of_heap J5.out.item]; rfl
            have yw54 : w5.cell? ⟨wr.heap.size, 4, none⟩ = some (.slice none 0 ca) := by rw [Lib.cell_of_heap J5.out.item]; rfl
            have fw53 : w5.frozen? ⟨wr.heap.size, 3, none⟩ = false := Lib.frozen_of_heap J5.out.item 3
            have fw54 : w5.frozen? ⟨wr.heap.size, 4, none⟩ = false := Lib.frozen_of_heap J5.out.item 4
            have rw50 : w5.cell? ⟨w.heap.size, 0, none⟩ = some (.int .i64 0) := by rw [Lib.cell_of_heap J5.out.told]; rfl
            have rw51 : w5.cell? ⟨w.heap.size, 1, none⟩ = some (.int .i64 0) := by rw [Lib.cell_of_heap J5.out.told]; rfl
            have rw52 : w5.cell? ⟨w.heap.size, 2, none⟩ = some (.string ⟨#[]⟩) := by rw [Lib.cell_of_heap J5.out.told]; rfl
            have rw53 : w5.cell? ⟨w.heap.size, 3, none⟩ = some (.string ⟨#[]⟩) := by rw [Lib.cell_of_heap J5.out.told]; rfl
            have rw54 : w5.cell? ⟨w.heap.size, 4, none⟩ = some (.slice none 0 0) := by rw [Lib.cell_of_heap J5.out.told]; rfl
            have gw50 : w5.frozen? ⟨w.heap.size, 0, none⟩ = false := Lib.frozen_of_heap J5.out.told 0
            have gw51 : w5.frozen? ⟨w.heap.size, 1, none⟩ = false := Lib.frozen_of_heap J5.out.told 1
            have gw52 : w5.frozen? ⟨w.heap.size, 2, none⟩ = false := Lib.frozen_of_heap J5.out.told 2
            have gw53 : w5.frozen? ⟨w.heap.size, 3, none⟩ = false := Lib.frozen_of_heap J5.out.told 3
            have gw54 : w5.frozen? ⟨w.heap.size, 4, none⟩ = false := Lib.frozen_of_heap J5.out.told 4
            clear j5)
          all_goals
            go_wp2
            refine bodyPost_ret (v := .agg #[.int .i64 lv, .int .i64 kd, .string nm, .string (S.bA (S.texts m)), .slice none 0 0]) (by simp [results, Tryd.results41, go_sem, rw50, rw51, rw52, rw53, rw54]) rfl ?_
            refine ⟨.slice none 0 0, by rw [HONE.out]; rfl, by rw [HONE.out]; exact ⟨by simp [encL], Or.inl ⟨rfl, rfl⟩⟩, ?_⟩
            have hz : w.heap.size ≤ wr.heap.size := HBw.out.size
            exact ((((((J5.out.below.setCell (p := ⟨wr.heap.size, 3, none⟩) hz _).setCell (p := ⟨wr.heap.size, 4, none⟩) hz _).setCell (p := ⟨w.heap.size, 0, none⟩) (Nat.le_refl _) _).setCell (p := ⟨w.heap.size, 1, none⟩) (Nat.le_refl _) _).setCell (p := ⟨w.heap.size, 2, none⟩) (Nat.le_refl _) _).setCell (p := ⟨w.heap.size, 3, none⟩) (Nat.le_refl _) _).setCell (p := ⟨w.heap.size, 4, none⟩) (Nat.le_refl _) _
        | some av =>
          go_region_law (
            refine step_calls1 rfl 34 (.tmp 29) _ rfl EG.out (.pointer (some ⟨w.heap.size + 1, 0, none⟩)) rfl (fun v w' => v = .string (S.bA (S.texts m)) ∧ JW w.heap.size wr.heap.size (S.texts m) #[.int .i64 lv, .int .i64 kd, .string nm, .string tx, .slice (some av) 0 ca] w w') (by
              refine (pageString_any _ _ _ _ JD.out.page JD.out.size).mono ?_
              rintro e w5 ⟨rfl, p5, b5, k5⟩
              exact ⟨_, rfl, rfl, JD.out.str p5 b5 k5⟩) ?_
            rintro v w5 ⟨rfl, j5⟩
            have J5 := hid j5
            have yw50 : w5.cell? ⟨wr.heap.size, 0, none⟩ = some (.int .i64 lv) := by rw [Lib.cell_of_heap J5.out.item]; rfl
            have yw51 : w5.cell? ⟨wr.heap.size, 1, none⟩ = some (.int .i64 kd) := by rw [Lib.cell_of_heap J5.out.item]; rfl
            have yw52 : w5.cell? ⟨wr.heap.size, 2, none⟩ = some (.string nm) := by rw [Lib.cell_of_heap J5.out.item]; rfl
            have yw53 : w5.cell? ⟨wr.heap.size, 3, none⟩ = some (.string tx) := by rw [Lib.cell_of_heap J5.out.item]; rfl
            have yw54 : w5.cell? ⟨wr.heap.size, 4, none⟩ = some (.slice (some av) 0 ca) := by rw [Lib.cell_of_heap J5.out.item]; rfl
            have fw53 : w5.frozen? ⟨wr.heap.size, 3, none⟩ = false := Lib.frozen_of_heap J5.out.item 3
            have fw54 : w5.frozen? ⟨wr.heap.size, 4, none⟩ = false := Lib.frozen_of_heap J5.out.item 4
            have rw50 : w5.cell? ⟨w.heap.size, 0, none⟩ = some (.int .i64 0) := by rw [Lib.cell_of_heap J5.out.told]; rfl
            have rw51 : w5.cell? ⟨w.heap.size, 1, none⟩ = some (.int .i64 0) := by rw [Lib.cell_of_heap J5.out.told]; rfl
            have rw52 : w5.cell? ⟨w.heap.size, 2, none⟩ = some (.string ⟨#[]⟩) := by rw [Lib.cell_of_heap J5.out.told]; rfl
            have rw53 : w5.cell? ⟨w.heap.size, 3, none⟩ = some (.string ⟨#[]⟩) := by rw [Lib.cell_of_heap J5.out.told]; rfl
            have rw54 : w5.cell? ⟨w.heap.size, 4, none⟩ = some (.slice none 0 0) := by rw [Lib.cell_of_heap J5.out.told]; rfl
            have gw50 : w5.frozen? ⟨w.heap.size, 0, none⟩ = false := Lib.frozen_of_heap J5.out.told 0
            have gw51 : w5.frozen? ⟨w.heap.size, 1, none⟩ = false := Lib.frozen_of_heap J5.out.told 1
            have gw52 : w5.frozen? ⟨w.heap.size, 2, none⟩ = false := Lib.frozen_of_heap J5.out.told 2
            have gw53 : w5.frozen? ⟨w.heap.size, 3, none⟩ = false := Lib.frozen_of_heap J5.out.told 3
            have gw54 : w5.frozen? ⟨w.heap.size, 4, none⟩ = false := Lib.frozen_of_heap J5.out.told 4
            clear j5)
          all_goals
            go_wp2
            refine bodyPost_ret (v := .agg #[.int .i64 lv, .int .i64 kd, .string nm, .string (S.bA (S.texts m)), .slice none 0 0]) (by simp [results, Tryd.results41, go_sem, rw50, rw51, rw52, rw53, rw54]) rfl ?_
            refine ⟨.slice none 0 0, by rw [HONE.out]; rfl, by rw [HONE.out]; exact ⟨by simp [encL], Or.inl ⟨rfl, rfl⟩⟩, ?_⟩
            have hz : w.heap.size ≤ wr.heap.size := HBw.out.size
            exact ((((((J5.out.below.setCell (p := ⟨wr.heap.size, 3, none⟩) hz _).setCell (p := ⟨wr.heap.size, 4, none⟩) hz _).setCell (p := ⟨w.heap.size, 0, none⟩) (Nat.le_refl _) _).setCell (p := ⟨w.heap.size, 1, none⟩) (Nat.le_refl _) _).setCell (p := ⟨w.heap.size, 2, none⟩) (Nat.le_refl _) _).setCell (p := ⟨w.heap.size, 3, none⟩) (Nat.le_refl _) _).setCell (p := ⟨w.heap.size, 4, none⟩) (Nat.le_refl _) _
      · obtain ⟨ga, oa, rfl, hga, hca⟩ := HCA.out hat
        have HNE : Hid (∀ j u, (encL ats)[j]? = some u → w.cell? ((⟨ga, oa, none⟩ : Addr).add j) = some u) := hid (by
          intro j u hu
          have hj : j < ats.length * 2 := by
            have := (List.getElem?_eq_some_iff.1 hu).1
            rwa [encL_length] at this
          rw [Addr.add_lit]
          obtain ⟨q, r, hr, rfl⟩ : ∃ q r, r < 2 ∧ j = q * 2 + r := ⟨j / 2, j % 2, Nat.mod_lt _ (by decide), by omega⟩
          have hq : q < ats.length := by omega
          obtain ⟨d0, d1⟩ := hca q hq
          obtain ⟨e0, e1⟩ := encL_at ats q hq
          match r, hr with
          | 0, _ => rw [Nat.add_zero] at hu ⊢; rw [e0] at hu; rw [d0]; exact hu
          | 1, _ => rw [e1] at hu; rw [← Nat.add_assoc, d1]; exact hu)
        have HON : Hid (∀ u ∈ encL ats, u.oneCell' = true) := hid (by
          intro u hu
          simp only [encL, encA, List.mem_flatMap] at hu
          obtain ⟨a, _, hu⟩ := hu
          simp only [List.mem_cons, List.not_mem_nil, or_false] at hu
          rcases hu with rfl | rfl <;> rfl)
        obtain ⟨i0, I0, I1, I2, I3⟩ := info_parts infoAtt
        have HI0 := hid I0
        have HI1 := hid I1
        have HI2 := hid I2
        have HI3 := hid I3
        have hpa : 0 < ats.length := List.length_pos_iff.2 hat
        have HNB : Hid (∀ X, JW w.heap.size wr.heap.size (S.texts m) #[.int .i64 lv, .int .i64 kd, .string nm, .string tx, .slice (some ⟨ga, oa, none⟩) ats.length ca] w X → ∀ j u, (encL ats)[j]? = some u → X.cell? ((⟨ga, oa, none⟩ : Addr).add j) = some u) := hid (fun X h j u hu => by
          have := HNE.out j u hu
          rw [Addr.add_lit] at this ⊢
          exact (h.below.cell (p := ⟨ga, oa + j, none⟩) hga).trans this)
        have HM1 : Hid (0 + ats.length ≤ maxLen ∧ (0 + ats.length) * 32 ≤ 140737488355328) := hid ⟨by have := HA0.out; unfold maxLen; omega, by have := HA0.out; omega⟩
        clear I0 I1 I2 I3 HNE hca
        go_region_law (first
          | (refine step_calls1 rfl 34 (.tmp 29) _ rfl EG.out (.pointer (some ⟨w.heap.size + 1, 0, none⟩)) rfl (fun v w' => v = .string (S.bA (S.texts m)) ∧ JW w.heap.size wr.heap.size (S.texts m) #[.int .i64 lv, .int .i64 kd, .string nm, .string tx, .slice (some ⟨ga, oa, none⟩) ats.length ca] w w') (by
               refine (pageString_any _ _ _ _ JD.out.page JD.out.size).mono ?_
               rintro e w5 ⟨rfl, p5, b5, k5⟩
               exact ⟨_, rfl, rfl, JD.out.str p5 b5 k5⟩) ?_
             rintro v w5 ⟨rfl, j5⟩
             have J5 := hid j5
             have yw50 : w5.cell? ⟨wr.heap.size, 0, none⟩ = some (.int .i64 lv) := by rw [Lib.cell_of_heap J5.out.item]; rfl
             have yw51 : w5.cell? ⟨wr.heap.size, 1, none⟩ = some (.int .i64 kd) := by rw [Lib.cell_of_heap J5.out.item]; rfl
             have yw52 : w5.cell? ⟨wr.heap.size, 2, none⟩ = some (.string nm) := by rw [Lib.cell_of_heap J5.out.item]; rfl
             have yw53 : w5.cell? ⟨wr.heap.size, 3, none⟩ = some (.string tx) := by rw [Lib.cell_of_heap J5.out.item]; rfl
             have yw54 : w5.cell? ⟨wr.heap.size, 4, none⟩ = some (.slice (some ⟨ga, oa, none⟩) ats.length ca) := by rw [Lib.cell_of_heap J5.out.item]; rfl
             have fw53 : w5.frozen? ⟨wr.heap.size, 3, none⟩ = false := Lib.frozen_of_heap J5.out.item 3
             have fw54 : w5.frozen? ⟨wr.heap.size, 4, none⟩ = false := Lib.frozen_of_heap J5.out.item 4
             have rw50 : w5.cell? ⟨w.heap.size, 0, none⟩ = some (.int .i64 0) := by rw [Lib.cell_of_heap J5.out.told]; rfl
             have rw51 : w5.cell? ⟨w.heap.size, 1, none⟩ = some (.int .i64 0) := by rw [Lib.cell_of_heap J5.out.told]; rfl
             have rw52 : w5.cell? ⟨w.heap.size, 2, none⟩ = some (.string ⟨#[]⟩) := by rw [Lib.cell_of_heap J5.out.told]; rfl
             have rw53 : w5.cell? ⟨w.heap.size, 3, none⟩ = some (.string ⟨#[]⟩) := by rw [Lib.cell_of_heap J5.out.told]; rfl
             have rw54 : w5.cell? ⟨w.heap.size, 4, none⟩ = some (.slice none 0 0) := by rw [Lib.cell_of_heap J5.out.told]; rfl
             have gw50 : w5.frozen? ⟨w.heap.size, 0, none⟩ = false := Lib.frozen_of_heap J5.out.told 0
             have gw51 : w5.frozen? ⟨w.heap.size, 1, none⟩ = false := Lib.frozen_of_heap J5.out.told 1
             have gw52 : w5.frozen? ⟨w.heap.size, 2, none⟩ = false := Lib.frozen_of_heap J5.out.told 2
             have gw53 : w5.frozen? ⟨w.heap.size, 3, none⟩ = false := Lib.frozen_of_heap J5.out.told 3
             have gw54 : w5.frozen? ⟨w.heap.size, 4, none⟩ = false := Lib.frozen_of_heap J5.out.told 4
             clear j5)
          | (refine step_append_lies _ rfl (.const (.slice none 0 0)) (.tmp 32) 30 rfl w.heap.size 34 i0 (.agg #[.string ⟨#[]⟩, .string ⟨#[]⟩]) 2 32 Tryd.underlying30 HI0.out HI1.out HI2.out HI3.out rfl (by decide) _ 0 [] rfl ⟨by simp, Or.inl ⟨rfl, rfl⟩⟩ ⟨ga, oa, none⟩ ats.length ca (encL ats) rfl (encL_length ats) (HNB.out _ J5.out) HON.out hpa HM1.out.1 HM1.out.2 J5.out.below.size _ rfl ?_
             intro g' cap' w6 hown hgrow hgl _
             have J6 := hid (J5.out.next ((Below.refl _ _).grown hgrow (Nat.le_refl _) (fun k hk => by cases hk)))
             have T6 := hid hown
             have yw60 : w6.cell? ⟨wr.heap.size, 0, none⟩ = some (.int .i64 lv) := by rw [Lib.cell_of_heap J6.out.item]; rfl
             have yw61 : w6.cell? ⟨wr.heap.size, 1, none⟩ = some (.int .i64 kd) := by rw [Lib.cell_of_heap J6.out.item]; rfl
             have yw62 : w6.cell? ⟨wr.heap.size, 2, none⟩ = some (.string nm) := by rw [Lib.cell_of_heap J6.out.item]; rfl
             have yw63 : w6.cell? ⟨wr.heap.size, 3, none⟩ = some (.string tx) := by rw [Lib.cell_of_heap J6.out.item]; rfl
             have yw64 : w6.cell? ⟨wr.heap.size, 4, none⟩ = some (.slice (some ⟨ga, oa, none⟩) ats.length ca) := by rw [Lib.cell_of_heap J6.out.item]; rfl
             have fw63 : w6.frozen? ⟨wr.heap.size, 3, none⟩ = false := Lib.frozen_of_heap J6.out.item 3
             have fw64 : w6.frozen? ⟨wr.heap.size, 4, none⟩ = false := Lib.frozen_of_heap J6.out.item 4
             have rw60 : w6.cell? ⟨w.heap.size, 0, none⟩ = some (.int .i64 0) := by rw [Lib.cell_of_heap J6.out.told]; rfl
             have rw61 : w6.cell? ⟨w.heap.size, 1, none⟩ = some (.int .i64 0) := by rw [Lib.cell_of_heap J6.out.told]; rfl
             have rw62 : w6.cell? ⟨w.heap.size, 2, none⟩ = some (.string ⟨#[]⟩) := by rw [Lib.cell_of_heap J6.out.told]; rfl
             have rw63 : w6.cell? ⟨w.heap.size, 3, none⟩ = some (.string ⟨#[]⟩) := by rw [Lib.cell_of_heap J6.out.told]; rfl
             have rw64 : w6.cell? ⟨w.heap.size, 4, none⟩ = some (.slice none 0 0) := by rw [Lib.cell_of_heap J6.out.told]; rfl
             have gw60 : w6.frozen? ⟨w.heap.size, 0, none⟩ = false := Lib.frozen_of_heap J6.out.told 0
             have gw61 : w6.frozen? ⟨w.heap.size, 1, none⟩ = false := Lib.frozen_of_heap J6.out.told 1
             have gw62 : w6.frozen? ⟨w.heap.size, 2, none⟩ = false := Lib.frozen_of_heap J6.out.told 2
             have gw63 : w6.frozen? ⟨w.heap.size, 3, none⟩ = false := Lib.frozen_of_heap J6.out.told 3
             have gw64 : w6.frozen? ⟨w.heap.size, 4, none⟩ = false := Lib.frozen_of_heap J6.out.told 4
             have HGE : Hid (w5.heap.size = g') := hid (by rcases hgl with h | h; · cases h
                                                           · exact h.symm)
             clear hown hgrow hgl))
        all_goals
          go_wp2
          refine bodyPost_ret (v := .agg #[.int .i64 lv, .int .i64 kd, .string nm, .string (S.bA (S.texts m)), .slice (some ⟨g', 0, none⟩) (0 + ats.length) cap']) (by simp [results, Tryd.results41, go_sem, rw60, rw61, rw62, rw63, rw64]) rfl ?_
          have hz : w.heap.size ≤ wr.heap.size := HBw.out.size
          have n1 := lt_of_block J5.out.item
          have n2 := lt_of_block J5.out.told
          have n3 := HGE.out
          have hr : w6.ownsRow w.heap.size 34 2 (.slice (some ⟨g', 0, none⟩) ats.length cap') ats.length (encL ats) := by have := T6.out; rwa [Nat.zero_add, List.nil_append] at this
          have nb : (Value.slice (some ⟨g', 0, none⟩) ats.length cap').ownBlock ≠ some wr.heap.size := by simp [Value.ownBlock]; omega
          have nB : (Value.slice (some ⟨g', 0, none⟩) ats.length cap').ownBlock ≠ some w.heap.size := by simp [Value.ownBlock]; omega
          refine ⟨.slice (some ⟨g', 0, none⟩) ats.length cap', by rw [HONE.out, Nat.zero_add]; rfl, by rw [HONE.out]; exact ownsRow_setCell_other (ownsRow_setCell_other (ownsRow_setCell_other (ownsRow_setCell_other (ownsRow_setCell_other (ownsRow_setCell_other (ownsRow_setCell_other hr nb _) nb _) nB _) nB _) nB _) nB _) nB _, ?_⟩
          exact ((((((J6.out.below.setCell (p := ⟨wr.heap.size, 3, none⟩) hz _).setCell (p := ⟨wr.heap.size, 4, none⟩) hz _).setCell (p := ⟨w.heap.size, 0, none⟩) (Nat.le_refl _) _).setCell (p := ⟨w.heap.size, 1, none⟩) (Nat.le_refl _) _).setCell (p := ⟨w.heap.size, 2, none⟩) (Nat.le_refl _) _).setCell (p := ⟨w.heap.size, 3, none⟩) (Nat.le_refl _) _).setCell (p := ⟨w.heap.size, 4, none⟩) (Nat.le_refl _) _
end Go.Proofs.YtmnegpdegfianaaDoor
namespace Go.Proofs.YtmnegpdegfianaaDoor
open Go.RowKit Go.Shelf
/-- An item stands at a place of an array. -/
def RowA (cur : Array Value) (o q : Nat) (x : IV) : Prop :=
  cur[o + q * 5]? = some (.int .i64 x.1.level) ∧ cur[o + q * 5 + 1]? = some (.int .i64 x.1.kind) ∧ cur[o + q * 5 + 2]? = some (.string x.1.name) ∧ cur[o + q * 5 + 3]? = some (.string x.1.text) ∧ cur[o + q * 5 + 4]? = some x.2
def put5A (cur : Array Value) (k : Nat) (x : IV) : Array Value :=
  ((((cur.setIfInBounds k (.int .i64 x.1.level)).setIfInBounds (k + 1) (.int .i64 x.1.kind)).setIfInBounds (k + 2) (.string x.1.name)).setIfInBounds (k + 3) (.string x.1.text)).setIfInBounds (k + 4) x.2
theorem put5A_size (cur : Array Value) (k : Nat) (x : IV) : (put5A cur k x).size = cur.size := by simp [put5A]
theorem put5A_other {cur : Array Value} {k j : Nat} (x : IV) (h : j < k ∨ k + 4 < j) : (put5A cur k x)[j]? = cur[j]? := by
  unfold put5A
  rw [Array.getElem?_setIfInBounds_ne (by omega), Array.getElem?_setIfInBounds_ne (by omega), Array.getElem?_setIfInBounds_ne (by omega), Array.getElem?_setIfInBounds_ne (by omega), Array.getElem?_setIfInBounds_ne (by omega)]
theorem put5A_same {cur : Array Value} {o q : Nat} (x : IV) (h : o + q * 5 + 4 < cur.size) : RowA (put5A cur (o + q * 5) x) o q x := by
  unfold put5A RowA
  refine ⟨?_, ?_, ?_, ?_, ?_⟩
  · rw [Array.getElem?_setIfInBounds_ne (by omega), Array.getElem?_setIfInBounds_ne (by omega), Array.getElem?_setIfInBounds_ne (by omega), Array.getElem?_setIfInBounds_ne (by omega), Array.getElem?_setIfInBounds_self_of_lt (by omega)]
  · rw [Array.getElem?_setIfInBounds_ne (by omega), Array.getElem?_setIfInBounds_ne (by omega), Array.getElem?_setIfInBounds_ne (by omega), Array.getElem?_setIfInBounds_self_of_lt (by simp; omega)]
  · rw [Array.getElem?_setIfInBounds_ne (by omega), Array.getElem?_setIfInBounds_ne (by omega), Array.getElem?_setIfInBounds_self_of_lt (by simp; omega)]
  · rw [Array.getElem?_setIfInBounds_ne (by omega), Array.getElem?_setIfInBounds_self_of_lt (by simp; omega)]
  · rw [Array.getElem?_setIfInBounds_self_of_lt (by simp; omega)]
theorem RowA.other {cur : Array Value} {o p q : Nat} {x y : IV} (h : RowA cur o p y) (hpq : p < q ∨ q < p) : RowA (put5A cur (o + q * 5) x) o p y := by
  obtain ⟨h0, h1, h2, h3, h4⟩ := h
  refine ⟨?_, ?_, ?_, ?_, ?_⟩ <;> rw [put5A_other x (by omega)] <;> assumption
/-- What is kept. -/
def keptI (l : List IV) : List IV := l.filter fun x => !S.emptyT x.1
theorem kept_map (l : List IV) : (keptI l).map (·.1) = S.fullP (l.map (·.1)) := by
  unfold keptI S.fullP
  induction l with
  | nil => rfl
  | cons x l ih =>
    rw [List.filter_cons, List.map_cons, List.filter_cons]
    split <;> simp_all
theorem kept_take {l : List IV} {j : Nat} (h : j < l.length) : keptI (l.take (j + 1)) = keptI (l.take j) ++ if S.emptyT l[j].1 = true then [] else [l[j]] := by
  unfold keptI
  rw [List.take_succ_eq_append_getElem h, List.filter_append]
  congr 1
  by_cases q : S.emptyT l[j].1 = true
  · simp [q]
  · simp [q]
/-- How far it is: the first i are what is kept of the first j, and those from j on are as they were. -/
structure DI (cur : Array Value) (o : Nat) (l : List IV) (i j : Nat) : Prop where
  lt : i < j
  le : j ≤ l.length
  size : o + l.length * 5 ≤ cur.size
  len : (keptI (l.take j)).length = i
  done : ∀ q (h : q < (keptI (l.take j)).length), RowA cur o q (keptI (l.take j))[q]
  rest : ∀ q (h : q < l.length), j ≤ q → RowA cur o q l[q]
theorem DI.skip {cur : Array Value} {o : Nat} {l : List IV} {i j : Nat} (D : DI cur o l i j) (h : j < l.length) (he : S.emptyT l[j].1 = true) : DI cur o l i (j + 1) := by
  have e : keptI (l.take (j + 1)) = keptI (l.take j) := by rw [kept_take h, if_pos he, List.append_nil]
  refine ⟨by have := D.lt; omega, h, D.size, by rw [e]; exact D.len, ?_, fun q hq hj => D.rest q hq (by omega)⟩
  rw [e]
  exact D.done
theorem DI.keep {cur : Array Value} {o : Nat} {l : List IV} {i j : Nat} (D : DI cur o l i j) (h : j < l.length) (he : S.emptyT l[j].1 = false) : DI (put5A cur (o + i * 5) l[j]) o l (i + 1) (j + 1) := by
  have e : keptI (l.take (j + 1)) = keptI (l.take j) ++ [l[j]] := by rw [kept_take h, if_neg (by rw [he]; decide)]
  have hi := D.lt
  have hs := D.size
  refine ⟨by omega, h, by rw [put5A_size]; exact hs, by rw [e, List.length_append, D.len]; rfl, ?_, fun q hq hj => (D.rest q hq (by omega)).other (by omega)⟩
  rw [e]
  intro q hq
  rw [List.length_append, D.len] at hq
  simp only [List.length_singleton] at hq
  rcases Nat.lt_or_ge q i with a | a
  · rw [List.getElem_append_left (by rw [D.len]; exact a)]
    exact (D.done q (by rw [D.len]; exact a)).other (.inl a)
  · obtain rfl : q = i := by omega
    rw [List.getElem_append_right (by rw [D.len]; exact Nat.le_refl _)]
    simp only [D.len, Nat.sub_self, List.getElem_cons_zero]
    exact put5A_same _ (by omega)
/-- Where the first one that is left out stands. -/
theorem DI.start {cur : Array Value} {o : Nat} {l : List IV} {k : Nat} (hs : o + l.length * 5 ≤ cur.size) (h : k < l.length) (he : S.emptyT l[k].1 = true) (hn : ∀ j (h : j < l.length), j < k → S.emptyT l[j].1 = false) (hc : ∀ q (h : q < l.length), RowA cur o q l[q]) : DI cur o l k (k + 1) := by
  have e0 : keptI (l.take k) = l.take k := by
    unfold keptI
    rw [List.filter_eq_self]
    intro x hx
    obtain ⟨j, hj, rfl⟩ := List.getElem_of_mem hx
    rw [List.length_take] at hj
    rw [List.getElem_take, hn j (by omega) (by omega)]
    rfl
  have e : keptI (l.take (k + 1)) = l.take k := by rw [kept_take h, if_pos he, List.append_nil, e0]
  refine ⟨by omega, h, hs, by rw [e, List.length_take]; omega, ?_, fun q hq _ => hc q hq⟩
  rw [e]
  intro q hq
  rw [List.getElem_take]
  exact hc q (by rw [List.length_take] at hq; omega)
theorem zero_cells (n : Nat) : (Builtin.zeroCells (Value.agg #[.int .i64 0, .int .i64 0, .string ⟨#[]⟩, .string ⟨#[]⟩, .slice none 0 0]).cells n).toList.length = n * 5 := by
  simp [Builtin.zeroCells, Value.cells]
theorem zero_one (n : Nat) : ∀ v ∈ (Builtin.zeroCells (Value.agg #[.int .i64 0, .int .i64 0, .string ⟨#[]⟩, .string ⟨#[]⟩, .slice none 0 0]).cells n).toList, v.oneCell' = true := by
  intro v hv
  have e : (Value.agg #[.int .i64 0, .int .i64 0, .string ⟨#[]⟩, .string ⟨#[]⟩, .slice none 0 0]).cells = #[.int .i64 0, .int .i64 0, .string ⟨#[]⟩, .string ⟨#[]⟩, .slice none 0 0] := by kernel_rfl
  rw [e] at hv
  simp only [Builtin.zeroCells, Array.toList_map, List.mem_map] at hv
  obtain ⟨i, _, rfl⟩ := hv
  have : i % 5 < 5 := Nat.mod_lt _ (by decide)
  show (#[Value.int .i64 0, .int .i64 0, .string ⟨#[]⟩, .string ⟨#[]⟩, .slice none 0 0][i % 5]!).oneCell' = true
  generalize i % 5 = k at *
  match k, this with
  | 0, _ => rfl
  | 1, _ => rfl
  | 2, _ => rfl
  | 3, _ => rfl
  | 4, _ => rfl
theorem clear_items (w : World) (b o n c : Nat) (hn : 0 < n) (hc : ∀ j, j < n * 5 → (w.cell? ⟨b, o + j, none⟩).isSome = true) (hf : ∀ j, j < n * 5 → w.frozen? ⟨b, o + j, none⟩ = false) :
    ∃ zs : List Value, zs.length = n * 5 ∧ ∀ ty, (Builtin.clear_ #[22] ty #[.slice (some ⟨b, o, none⟩) n c]).run Tryd.prog w = .ok (.tuple #[]) (w.setCells b o zs) := by
  obtain ⟨i0, I0, I1, I2, I3⟩ := info_parts infoItm
  have hv : ∀ w, (zeroValue 32).run Tryd.prog w = .ok (.agg #[.int .i64 0, .int .i64 0, .string ⟨#[]⟩, .string ⟨#[]⟩, .slice none 0 0]) w := fun w => by kernel_rfl
  refine ⟨_, zero_cells n, fun ty => ?_⟩
  have hst := run_storeCells_cells (P := Tryd.prog) b o (Builtin.zeroCells (Value.agg #[.int .i64 0, .int .i64 0, .string ⟨#[]⟩, .string ⟨#[]⟩, .slice none 0 0]).cells n).toList 0 w (by rw [zero_cells]; simpa using hc) (by rw [zero_cells]; simpa using hf) (zero_one n)
  simp only [Nat.add_zero] at hst
  obtain ⟨m, rfl⟩ : ∃ m, n = m + 1 := ⟨n - 1, by omega⟩
  simp [Builtin.clear_, run_underlying Tryd.underlying22, hv, hst]
end Go.Proofs.YtmnegpdegfianaaDoor
namespace Go.Proofs.YtmnegpdegfianaaDoor
open Go.RowKit Go.Shelf
set_option maxHeartbeats 2000000 in
set_option maxRecDepth 100000 in
theorem delete_any (B g o cap : Nat) (l : List IV) (cur0 : Array Value) (w : World) (hB : B ≤ g) (hBw : B ≤ w.heap.size) (HG : Hid (w.heap[g]? = some (.cells cur0 32 (0, 0)))) (HS : Hid (o + l.length * 5 ≤ cur0.size)) (HC : Hid (∀ q (h : q < l.length), RowA cur0 o q l[q])) (I : Hid (ItemsIn (.slice (some ⟨g, o, none⟩) l.length cap) l w)) (hcap : l.length ≤ cap) (hn : l.length * 72 ≤ 140737488355328) :
    Calls Tryd.prog 37 #[.slice (some ⟨g, o, none⟩) l.length cap, .func (.func 39) #[] #[]] w fun e w' => e = .returned (.slice (some ⟨g, o, none⟩) (keptI l).length cap) ∧ Below B w w' ∧ ∀ q (h : q < (keptI l).length), (w'.cell? ⟨g, o + q * 5, none⟩ = some (.int .i64 (keptI l)[q].1.level) ∧ w'.cell? ⟨g, o + q * 5 + 1, none⟩ = some (.int .i64 (keptI l)[q].1.kind) ∧ w'.cell? ⟨g, o + q * 5 + 2, none⟩ = some (.string (keptI l)[q].1.name) ∧ w'.cell? ⟨g, o + q * 5 + 3, none⟩ = some (.string (keptI l)[q].1.text) ∧ w'.cell? ⟨g, o + q * 5 + 4, none⟩ = some (keptI l)[q].2) := by
  have IX := hid (index_any _ l w I)
  have HI : Hid (∀ x ∈ l, ∃ ao n c, x.2 = .slice ao n c) := hid (fun x hx => slice_of I.out hx)
  clear I
  go_enter Tryd.func37, Tryd.ntmps37
  go_wp2_with fail
  refine IX.out.mono ?_
  rintro e w1 ⟨r, rfl, hb1, hr⟩
  have HG1 : Hid (w1.heap[g]? = some (.cells cur0 32 (0, 0))) := hid ((hb1.block g (lt_of_block HG.out)).trans HG.out)
  have HB1 : Hid (Below B w w1) := hid (hb1.mono hBw)
  clear hb1 IX
  rcases hr with ⟨rfl, hr⟩ | ⟨k, rfl, hk, he, hr⟩
  · have e : keptI l = l := by
      unfold keptI
      rw [List.filter_eq_self]
      intro x hx
      obtain ⟨j, hj, rfl⟩ := List.getElem_of_mem hx
      rw [hr j hj]
      rfl
    clear hr
    go_wp2
    go_ret
    refine ⟨by rw [e]; rfl, HB1.out, ?_⟩
    rw [e]
    intro q h
    obtain ⟨h0, h1, h2, h3, h4⟩ := HC.out q h
    exact ⟨by rw [Lib.cell_of_heap HG1.out]; exact h0, by rw [Lib.cell_of_heap HG1.out]; exact h1, by rw [Lib.cell_of_heap HG1.out]; exact h2, by rw [Lib.cell_of_heap HG1.out]; exact h3, by rw [Lib.cell_of_heap HG1.out]; exact h4⟩
  · have HD := hid (DI.start HS.out hk (he hk) hr HC.out)
    have hk' : ((k : Int) == -1) = false := beq_eq_false_iff_ne.2 (by omega)
    clear he hr HC HS
    go_wp2
    go_loopw [5, 6] (fun v5 v6 X => ∃ (i j : Nat) (cur : Array Value), v5 = .int .i64 (i : Int) ∧ v6 = .int .i64 (j : Int) ∧ j ≤ l.length ∧ Hid (DI cur o l i j) ∧ Hid (X.heap[g]? = some (.cells cur 32 (0, 0))) ∧ Hid (Below B w X)) (fun _ v6 _ => l.length - (intOf v6).toNat)
    case atStart => exact ⟨k, k + 1, cur0, rfl, by go_num, by omega, HD, HG1, HB1⟩
    case round =>
      clear HD HG1 HB1 hk'
      obtain ⟨i, j, cur, rfl, rfl, hj, HD, HGr, HBr⟩ := hrel
      have hij := HD.out.lt
      by_cases h1 : j < l.length
      · have h1' : (j : Int) < (l.length : Int) := by omega
        obtain ⟨k0, k1, k2, k3, k4⟩ := HD.out.rest j h1 (Nat.le_refl _)
        rw [← Lib.cell_of_heap HGr.out] at k0 k1 k2 k3 k4
        have HSL := hid (HI.out _ (List.getElem_mem h1))
        obtain ⟨r, HR⟩ : ∃ r, Hid (S.emptyT l[j].1 = r) := ⟨_, hid rfl⟩
        have CL : Hid (∀ W, _) := hid (fun W => empty_any l[j].1 l[j].2 W r HR HSL.out)
        obtain ⟨ao2, n2, cp2, he⟩ := HSL.out
        rw [he] at k4
        have HE := hid he
        clear he
        have hgw := lt_of_block HGr.out
        have HGW := hid hgw
        clear hgw
        go_wp2_with fail
        rw [← HE.out]
        refine (CL.out _).mono ?_
        rintro e w3 ⟨rfl, hb3⟩
        have oV : w3.heap[wr.heap.size]? = some (.cells #[.int .i64 l[j].1.level, .int .i64 l[j].1.kind, .string l[j].1.name, .string l[j].1.text, l[j].2] 32 (0, 0)) := (hb3.block wr.heap.size (by simp)).trans (heap_alloc_new wr _)
        have oG : w3.heap[g]? = some (.cells cur 32 (0, 0)) := (hb3.block g (by have := HGW.out; simp; omega)).trans (((below_new wr _).block g HGW.out).trans HGr.out)
        have HG3 := hid oG
        have hbw : B ≤ wr.heap.size := Nat.le_trans hBw HBr.out.size
        have HB3 : Hid (Below B w w3) := hid (HBr.out.trans (((below_new wr _).mono hbw).trans (hb3.mono (by simp; omega))))
        clear hb3 k0 k1 k2 k3 k4
        cases r with
        | true =>
          clear oV oG
          go_wp2
          go_roundw
          case rel => exact ⟨i, j + 1, cur, rfl, by go_num, by omega, hid (HD.out.skip h1 HR.out), HG3, HB3⟩
          case measure => (simp [intOf]; try omega)
        | false =>
          have hs := HD.out.size
          obtain ⟨y0, c0⟩ : ∃ y, w3.cell? ⟨g, o + i * 5, none⟩ = some y := ⟨_, by rw [Lib.cell_of_heap oG]; exact Array.getElem?_eq_getElem (by omega)⟩
          obtain ⟨y1, c1⟩ : ∃ y, w3.cell? ⟨g, o + i * 5 + 1, none⟩ = some y := ⟨_, by rw [Lib.cell_of_heap oG]; exact Array.getElem?_eq_getElem (by omega)⟩
          obtain ⟨y2, c2⟩ : ∃ y, w3.cell? ⟨g, o + i * 5 + 2, none⟩ = some y := ⟨_, by rw [Lib.cell_of_heap oG]; exact Array.getElem?_eq_getElem (by omega)⟩
          obtain ⟨y3, c3⟩ : ∃ y, w3.cell? ⟨g, o + i * 5 + 3, none⟩ = some y := ⟨_, by rw [Lib.cell_of_heap oG]; exact Array.getElem?_eq_getElem (by omega)⟩
          obtain ⟨y4, c4⟩ : ∃ y, w3.cell? ⟨g, o + i * 5 + 4, none⟩ = some y := ⟨_, by rw [Lib.cell_of_heap oG]; exact Array.getElem?_eq_getElem (by omega)⟩
          have f0 := Lib.frozen_of_heap oG (o + i * 5)
          have f1 := Lib.frozen_of_heap oG (o + i * 5 + 1)
          have f2 := Lib.frozen_of_heap oG (o + i * 5 + 2)
          have f3 := Lib.frozen_of_heap oG (o + i * 5 + 3)
          have f4 := Lib.frozen_of_heap oG (o + i * 5 + 4)
          have v0 : w3.cell? ⟨wr.heap.size, 0, none⟩ = some (.int .i64 l[j].1.level) := by rw [Lib.cell_of_heap oV]; rfl
          have v1 : w3.cell? ⟨wr.heap.size, 1, none⟩ = some (.int .i64 l[j].1.kind) := by rw [Lib.cell_of_heap oV]; rfl
          have v2 : w3.cell? ⟨wr.heap.size, 2, none⟩ = some (.string l[j].1.name) := by rw [Lib.cell_of_heap oV]; rfl
          have v3 : w3.cell? ⟨wr.heap.size, 3, none⟩ = some (.string l[j].1.text) := by rw [Lib.cell_of_heap oV]; rfl
          have v4 : w3.cell? ⟨wr.heap.size, 4, none⟩ = some (.slice ao2 n2 cp2) := by rw [Lib.cell_of_heap oV, ← HE.out]; rfl
          have hil : (i : Int) < (l.length : Int) := by omega
          clear oV oG
          go_wp2
          go_roundw
          case rel =>
            refine ⟨i + 1, j + 1, put5A cur (o + i * 5) l[j], by go_num, by go_num, by omega, hid (HD.out.keep h1 HR.out), hid ?_, hid ?_⟩
            · have s0 := heap_setCell_same _ _ (o + i * 5) _ _ (.int .i64 l[j].1.level) HG3.out
              have s1 := heap_setCell_same _ _ (o + i * 5 + 1) _ _ (.int .i64 l[j].1.kind) s0
              have s2 := heap_setCell_same _ _ (o + i * 5 + 2) _ _ (.string l[j].1.name) s1
              have s3 := heap_setCell_same _ _ (o + i * 5 + 3) _ _ (.string l[j].1.text) s2
              have s4 := heap_setCell_same _ _ (o + i * 5 + 4) _ _ (.slice ao2 n2 cp2) s3
              unfold put5A
              rw [HE.out]
              exact s4
            · exact ((((HB3.out.setCell (p := ⟨g, o + i * 5, none⟩) hB _).setCell (p := ⟨g, o + i * 5 + 1, none⟩) hB _).setCell (p := ⟨g, o + i * 5 + 2, none⟩) hB _).setCell (p := ⟨g, o + i * 5 + 3, none⟩) hB _).setCell (p := ⟨g, o + i * 5 + 4, none⟩) hB _
          case measure => (simp [intOf]; try omega)
      · have h1' : ¬ (j : Int) < (l.length : Int) := by omega
        obtain rfl : j = l.length := by omega
        have hs := HD.out.size
        obtain ⟨zs, hz, hcl⟩ := clear_items wr g (o + i * 5) (l.length - i) (cap - i) (by omega) (fun q hq => by rw [Lib.cell_of_heap HGr.out, Array.getElem?_eq_getElem (by omega)]; rfl) (fun q _ => Lib.frozen_of_heap HGr.out _)
        have hic : (i : Int) ≤ (cap : Int) := by omega
        have hil : (i : Int) ≤ (l.length : Int) := by omega
        have hil2 : i ≤ l.length := by omega
        have hlen := HD.out.len
        have hdn := HD.out.done
        rw [List.take_length] at hlen hdn
        have HLN := hid hlen
        have HDN := hid hdn
        clear hlen hdn
        go_wp2
        go_ret
        refine ⟨by rw [HLN.out]; rfl, Go.below_setCells (B := B) hB zs _ _ HBr.out, fun q hq => ?_⟩
        have hq' : q < i := by rw [← HLN.out]; exact hq
        obtain ⟨h0, h1, h2, h3, h4⟩ := HDN.out q hq
        refine ⟨?_, ?_, ?_, ?_, ?_⟩ <;> rw [World.cell?_setCells_out g zs (o + i * 5) wr _ (fun _ _ => by dsimp only; omega), Lib.cell_of_heap HGr.out] <;> assumption
end Go.Proofs.YtmnegpdegfianaaDoor
namespace Go.Proofs.YtmnegpdegfianaaDoor
open Go.RowKit Go.Shelf
theorem rows_apart {base base' : Nat} {e e' : TypeId} {size size' : Nat} {v v' : Value} {n n' : Nat} {xs xs' : List Value} {w : World} (h : w.ownsRow base e size v n xs) (h' : w.ownsRow base' e' size' v' n' xs') (ne : e ≠ e') : v.ownBlock = none ∨ v.ownBlock ≠ v'.ownBlock := by
  rcases h.2 with ⟨rfl, _⟩ | ⟨g, cap, cur, rfl, _, hb, _⟩
  · exact .inl rfl
  · right
    rcases h'.2 with ⟨rfl, _⟩ | ⟨g', cap', cur', rfl, _, hb', _⟩
    · simp [Value.ownBlock]
    · intro q
      simp only [Value.ownBlock, Option.some.injEq] at q
      subst q
      rw [hb] at hb'
      simp only [Option.some.injEq, Obj.cells.injEq] at hb'
      exact ne hb'.2.1
theorem row_mono {w : World} {base base' : Nat} {e : TypeId} {size : Nat} {v : Value} {n : Nat} {xs : List Value} (h : w.ownsRow base e size v n xs) (hb : base' ≤ base) : w.ownsRow base' e size v n xs := by
  refine ⟨h.1, ?_⟩
  rcases h.2 with h2 | ⟨g, cap, cur, h3, h4, h5⟩
  · exact Or.inl h2
  · exact Or.inr ⟨g, cap, cur, h3, Nat.le_trans hb h4, h5⟩
set_option maxHeartbeats 1000000 in
set_option maxRecDepth 100000 in
theorem delete_none (ao : Option Addr) (cap : Nat) (w : World) :
    Calls Tryd.prog 37 #[.slice ao 0 cap, .func (.func 39) #[] #[]] w fun e w' => e = .returned (.slice ao 0 cap) ∧ Below w.heap.size w w' := by
  have IX := hid (index_any (.slice ao 0 cap) [] w (hid ⟨⟨ao, cap, rfl, by decide, fun h => absurd rfl h⟩, fun x hx => absurd hx (List.not_mem_nil)⟩))
  go_enter Tryd.func37, Tryd.ntmps37
  go_wp2_with fail
  refine IX.out.mono ?_
  rintro e w1 ⟨r, rfl, hb1, hr⟩
  have HB1 := hid hb1
  clear hb1 IX
  rcases hr with ⟨rfl, _⟩ | ⟨k, rfl, hk, _⟩
  · go_wp2
    go_ret
    exact ⟨rfl, HB1.out⟩
  · simp at hk
/-- What is left of a row: items in a block. -/
def RestAt (g : Nat) (V : Value) (L : List IV) (X : World) : Prop :=
  ∃ ao cap, V = .slice ao L.length cap ∧ L.length ≤ cap ∧ (L ≠ [] → ∃ o, ao = some ⟨g, o, none⟩ ∧ g < X.heap.size ∧ ∀ q (h : q < L.length), X.cell? ⟨g, o + q * 5, none⟩ = some (.int .i64 L[q].1.level) ∧ X.cell? ⟨g, o + q * 5 + 1, none⟩ = some (.int .i64 L[q].1.kind) ∧ X.cell? ⟨g, o + q * 5 + 2, none⟩ = some (.string L[q].1.name) ∧ X.cell? ⟨g, o + q * 5 + 3, none⟩ = some (.string L[q].1.text) ∧ X.cell? ⟨g, o + q * 5 + 4, none⟩ = some L[q].2)
theorem RestAt.same {g : Nat} {V : Value} {L : List IV} {X X' : World} (h : RestAt g V L X) (hc : g < X.heap.size → g < X'.heap.size ∧ ∀ o, X'.cell? ⟨g, o, none⟩ = X.cell? ⟨g, o, none⟩) : RestAt g V L X' := by
  obtain ⟨ao, cap, h1, h2, h3⟩ := h
  refine ⟨ao, cap, h1, h2, fun hne => ?_⟩
  obtain ⟨o, e, hg, hd⟩ := h3 hne
  obtain ⟨hg', hs⟩ := hc hg
  refine ⟨o, e, hg', fun q hq => ?_⟩
  obtain ⟨a, b, c, d, e⟩ := hd q hq
  exact ⟨(hs _).trans a, (hs _).trans b, (hs _).trans c, (hs _).trans d, (hs _).trans e⟩
theorem RestAt.below {g : Nat} {V : Value} {L : List IV} {X X' : World} (h : RestAt g V L X) (hb : Below X.heap.size X X') : RestAt g V L X' := h.same fun hg => ⟨Nat.lt_of_lt_of_le hg hb.size, fun o => hb.cell (p := ⟨g, o, none⟩) hg⟩
theorem RestAt.grown {g : Nat} {V : Value} {L : List IV} {X X' : World} {r : Option Nat} (h : RestAt g V L X) (hg : X.grownBy X' r) (hs : X.heap.size ≤ X'.heap.size) (hne : r ≠ some g) : RestAt g V L X' := h.same fun hlt => ⟨Nat.lt_of_lt_of_le hlt hs, fun o => hg.cell_far ⟨g, o, none⟩ hlt (fun q => hne q.symm)⟩
theorem RestAt.items {g : Nat} {V : Value} {L : List IV} {X : World} (h : RestAt g V L X) (ha : ∀ x ∈ L, AttrsIn x.2 x.1.attrs X) (hn : L.length ≤ 9223372036854775807) : ItemsIn V L X := by
  obtain ⟨ao, cap, h1, h2, h3⟩ := h
  refine ⟨⟨ao, cap, h1, hn, fun hne => ?_⟩, ha⟩
  obtain ⟨o, e, hg, hd⟩ := h3 hne
  exact ⟨g, o, e, hg, hd⟩
/-- What Normal works with, behind each piece. -/
structure NW (g : Nat) (l : List IV) (w : World) (L ln : List IV) (V4 V3 : Value) (X : World) : Prop where
  made : ln.map (·.1) ++ S.normP (L.map (·.1)) = S.normalP (l.map (·.1))
  rest : RestAt g V4 L X
  row : ItmRow w.heap.size V3 ln X
  apart : V3.ownBlock ≠ some g
  below : Below w.heap.size w X
  part : ∀ x ∈ L, x ∈ l
  many : ln.length + L.length ≤ l.length
  bytes : (S.texts (L.map (·.1))).length ≤ (S.texts (l.map (·.1))).length
theorem texts_kept (l : List IV) : (S.texts ((keptI l).map (·.1))).length ≤ (S.texts (l.map (·.1))).length := by
  rw [kept_map]
  exact S.texts_filter_le _ _
set_option maxHeartbeats 4000000 in
set_option maxRecDepth 100000 in
theorem normal_any (V : Value) (l : List IV) (w : World) (I : Hid (ItemsIn V l w)) (hn : l.length * 72 ≤ 140737488355328) (hlen : (S.texts (l.map (·.1))).length ≤ 140737488355328) (ha : ∀ x ∈ l, x.1.attrs.length * 32 ≤ 140737488355328) :
    Calls Tryd.prog 12 #[V] w fun e w' => ∃ V' l', e = .returned V' ∧ l'.map (·.1) = S.normalP (l.map (·.1)) ∧ ItmRow w.heap.size V' l' w' ∧ Below w.heap.size w w' := by
  have CL := hid (clone_any V l w I hn)
  obtain ⟨ao, cap, rfl, hl, hc⟩ := I.out.1
  have HAI : Hid (∀ x ∈ l, AttrsIn x.2 x.1.attrs w) := hid I.out.2
  have HHA := hid ha
  clear hc I ha
  go_enter Tryd.func12, Tryd.ntmps12
  go_wp2_with fail
  refine CL.out.mono ?_
  rintro e w1 ⟨V0, rfl, ho, hb1⟩
  have DL : ∃ g, Hid (Calls Tryd.prog 37 #[V0, .func (.func 39) #[] #[]] w1 fun e w' => ∃ V4, e = .returned V4 ∧ NW g l w (keptI l) [] V4 (.slice none 0 0) w') := by
    have fin : ∀ g V4 X, RestAt g V4 (keptI l) X → Below w.heap.size w X → NW g l w (keptI l) [] V4 (.slice none 0 0) X := fun g V4 X hr hb =>
      ⟨by rw [List.map_nil, List.nil_append, kept_map]; rfl, hr, ⟨⟨by simp [encI], Or.inl ⟨rfl, rfl⟩⟩, fun x hx => absurd hx (List.not_mem_nil)⟩, by simp [Value.ownBlock], hb, fun x hx => (List.mem_filter.1 hx).1, by simp [keptI]; exact List.length_filter_le _ _, texts_kept l⟩
    by_cases h0 : l = []
    · subst h0
      obtain ⟨a0, c0, rfl⟩ : ∃ a0 c0, V0 = .slice a0 0 c0 := by
        rcases ho.2 with ⟨rfl, _⟩ | ⟨g, cap, cur, rfl, _⟩
        · exact ⟨_, _, rfl⟩
        · exact ⟨_, _, rfl⟩
      refine ⟨w.heap.size, hid ((delete_none a0 c0 w1).mono ?_)⟩
      rintro e w2 ⟨rfl, hb2⟩
      exact ⟨_, rfl, fin _ _ _ ⟨a0, c0, rfl, Nat.zero_le _, fun h => absurd rfl h⟩ (hb1.trans (hb2.mono hb1.size))⟩
    · have hpos : 0 < l.length := List.length_pos_iff.2 h0
      rcases ho.2 with ⟨_, hz⟩ | ⟨g, cp, cur, rfl, hBg, hg, hnc, hcm, hcs, htake⟩
      · omega
      · have hcells : ∀ q (h : q < l.length), RowA cur 0 q l[q] := fun q h => by
          have at5 : ∀ s u, s < 5 → (encI l)[q * 5 + s]? = some u → cur[0 + q * 5 + s]? = some u := fun s u hs hu => by
            rw [← htake, List.getElem?_take] at hu
            split at hu
            · rw [Nat.zero_add, ← Array.getElem?_toList]; exact hu
            · cases hu
          obtain ⟨e0, e1, e2, e3, e4⟩ := encI_at l q h
          exact ⟨at5 0 _ (by decide) e0, at5 1 _ (by decide) e1, at5 2 _ (by decide) e2, at5 3 _ (by decide) e3, at5 4 _ (by decide) e4⟩
        have hsz : 0 + l.length * 5 ≤ cur.size := by rw [hcs]; omega
        have cel : ∀ o, w1.cell? ⟨g, o, none⟩ = cur[o]? := fun o => Lib.cell_of_heap hg o
        have II : ItemsIn (.slice (some ⟨g, 0, none⟩) l.length cp) l w1 := ⟨⟨_, cp, rfl, hl, fun _ => ⟨g, 0, rfl, lt_of_block hg, fun q h => by
          obtain ⟨h0, h1, h2, h3, h4⟩ := hcells q h
          exact ⟨(cel _).trans h0, (cel _).trans h1, (cel _).trans h2, (cel _).trans h3, (cel _).trans h4⟩⟩⟩, fun x hx => (HAI.out x hx).below hb1⟩
        refine ⟨g, hid ((delete_any w.heap.size g 0 cp l cur w1 hBg hb1.size (hid hg) (hid hsz) (hid hcells) (hid II) hnc hn).mono ?_)⟩
        rintro e w2 ⟨rfl, hb2, hd⟩
        refine ⟨_, rfl, fin _ _ _ ⟨_, cp, rfl, ?_, fun _ => ⟨0, rfl, Nat.lt_of_lt_of_le (lt_of_block hg) hb2.size, hd⟩⟩ (hb1.trans hb2)⟩
        have := List.length_filter_le (fun x : IV => !S.emptyT x.1) l
        unfold keptI
        omega
  obtain ⟨g, DL⟩ := DL
  have HV0 : ∃ a n c, V0 = .slice a n c := by
    rcases ho.2 with ⟨rfl, _⟩ | ⟨g, cap, cur, rfl, _⟩
    · exact ⟨_, _, _, rfl⟩
    · exact ⟨_, _, _, rfl⟩
  obtain ⟨va, vn, vc, rfl⟩ := HV0
  clear ho hb1 CL
  go_wp2_with fail
  refine DL.out.mono ?_
  rintro e w2 ⟨V4, rfl, hN⟩
  have HN := hid hN
  obtain ⟨a4, c4, h4, _⟩ := hN.rest
  subst h4
  clear hN DL
  go_wp2_with fail
  go_loopw [3, 4] (fun v3 v4 X => ∃ (L ln : List IV), Hid (NW g l w L ln v4 v3 X)) (fun _ v4 _ => match v4 with | .slice _ n _ => n | _ => 0)
  case atStart => exact ⟨keptI l, [], HN⟩
  case round =>
    clear HN
    obtain ⟨L, ln, HN⟩ := hrel
    obtain ⟨ao', cp', rfl, hlc, hrest⟩ := HN.out.rest
    by_cases h0 : L = []
    · subst h0
      simp only [List.length_nil] at *
      go_wp2
      go_ret
      refine ⟨_, ln, rfl, ?_, HN.out.row, HN.out.below⟩
      have := HN.out.made
      simpa [S.normP] using this
    · obtain ⟨o', rfl, hg', hd⟩ := hrest h0
      have hpos : 0 < L.length := List.length_pos_iff.2 h0
      have hpos' : (0 : Int) < (L.length : Int) := by omega
      have hLn : L.length ≤ l.length := by have := HN.out.many; omega
      have HATX : Hid (∀ x ∈ L, AttrsIn x.2 x.1.attrs wr) := hid (fun x hx => (HAI.out x (HN.out.part x hx)).below HN.out.below)
      have RU := hid (run_any _ L wr (hid (HN.out.rest.items HATX.out (by omega))) h0)
      obtain ⟨r, HR⟩ : ∃ r, Hid (S.runL (L.map (·.1)) = r) := ⟨_, hid rfl⟩
      have hr1 : 1 ≤ r := by rw [← HR.out]; exact S.run_pos (by simpa using h0)
      have hr2 : r ≤ L.length := by rw [← HR.out]; have := S.run_le (L.map (·.1)); simpa using this
      rw [HR.out] at RU
      have HST : Hid (S.normP (L.map (·.1)) = S.oneL ((L.take r).map (·.1)) :: S.normP ((L.drop r).map (·.1))) := hid (by
        have := S.norm_step (l := L.map (·.1)) (by simpa using h0)
        rw [HR.out] at this
        rw [this, List.map_take, List.map_drop])
      have HD := hid hd
      have HG := hid hg'
      clear hd hg' hrest
      go_wp2_with fail
      refine RU.out.mono ?_
      rintro e w3 ⟨rfl, hb3⟩
      have HN3 : Hid (NW g l w L ln (.slice (some ⟨g, o', none⟩) L.length cp') u3 w3) := hid ⟨HN.out.made, HN.out.rest.below hb3, HN.out.row.below hb3, HN.out.apart, HN.out.below.trans (hb3.mono HN.out.below.size), HN.out.part, HN.out.many, HN.out.bytes⟩
      have HD3 : Hid (∀ q (h : q < L.length), w3.cell? ⟨g, o' + q * 5, none⟩ = some (.int .i64 L[q].1.level) ∧ w3.cell? ⟨g, o' + q * 5 + 1, none⟩ = some (.int .i64 L[q].1.kind) ∧ w3.cell? ⟨g, o' + q * 5 + 2, none⟩ = some (.string L[q].1.name) ∧ w3.cell? ⟨g, o' + q * 5 + 3, none⟩ = some (.string L[q].1.text) ∧ w3.cell? ⟨g, o' + q * 5 + 4, none⟩ = some L[q].2) := hid (fun q h => by
        obtain ⟨a, b, c, d, e⟩ := HD.out q h
        exact ⟨(hb3.cell (p := ⟨g, o' + q * 5, none⟩) HG.out).trans a, (hb3.cell (p := ⟨g, o' + q * 5 + 1, none⟩) HG.out).trans b, (hb3.cell (p := ⟨g, o' + q * 5 + 2, none⟩) HG.out).trans c, (hb3.cell (p := ⟨g, o' + q * 5 + 3, none⟩) HG.out).trans d, (hb3.cell (p := ⟨g, o' + q * 5 + 4, none⟩) HG.out).trans e⟩)
      have HG3 : Hid (g < w3.heap.size) := hid (Nat.lt_of_lt_of_le HG.out hb3.size)
      clear hb3 HN HD HG RU HATX
      have hrc : (r : Int) ≤ (cp' : Int) := by omega
      have hrl : (r : Int) ≤ (L.length : Int) := by omega
      have hrl2 : r ≤ L.length := hr2
      have hrc2 : r ≤ cp' := by omega
      have IT : Hid (ItemsIn (.slice (some ⟨g, o', none⟩) r cp') (L.take r) w3) := hid ⟨⟨some ⟨g, o', none⟩, cp', by rw [List.length_take, Nat.min_eq_left hr2], by rw [List.length_take]; omega, fun _ => ⟨g, o', rfl, HG3.out, fun q hq => by
        rw [List.length_take] at hq
        have := HD3.out q (by omega)
        simpa [List.getElem_take] using this⟩⟩, fun x hx => (HAI.out x (HN3.out.part x (List.mem_of_mem_take hx))).below HN3.out.below⟩
      have hne : L.take r ≠ [] := by
        intro h
        rcases List.take_eq_nil_iff.1 h with h | h
        · omega
        · exact h0 h
      have JO := hid (joined_any _ (L.take r) w3 IT hne (by
        have a := S.texts_take_le (L.map (·.1)) r
        rw [List.map_take]
        have b := HN3.out.bytes
        omega) (fun x hx => HHA.out x (HN3.out.part x (List.mem_of_mem_take hx))))
      go_wp2_with fail
      refine JO.out.mono ?_
      rintro e w4 ⟨vj, rfl, hj, hb4⟩
      have HN4 : Hid (NW g l w L ln (.slice (some ⟨g, o', none⟩) L.length cp') u3 w4) := hid ⟨HN3.out.made, HN3.out.rest.below hb4, HN3.out.row.below hb4, HN3.out.apart, HN3.out.below.trans (hb4.mono HN3.out.below.size), HN3.out.part, HN3.out.many, HN3.out.bytes⟩
      obtain ⟨y, HY⟩ : ∃ y, Hid (S.oneL ((L.take r).map (·.1)) = y) := ⟨_, hid rfl⟩
      rw [HY.out] at hj HST ⊢
      have HJR : Hid (w4.ownsRow w.heap.size 34 2 vj y.attrs.length (encL y.attrs)) := hid (row_mono hj HN3.out.below.size)
      have hvj : ∃ a n c, vj = .slice a n c := by
        rcases hj.2 with ⟨rfl, _⟩ | ⟨g, cap, cur, rfl, _⟩
        · exact ⟨_, _, _, rfl⟩
        · exact ⟨_, _, _, rfl⟩
      obtain ⟨ja, jn, jc, rfl⟩ := hvj
      obtain ⟨lv, kd, nm, tx, ats⟩ := y
      unfold itmV
      dsimp only at *
      obtain ⟨i0, I0, I1, I2, I3⟩ := info_parts infoItm
      have HM : Hid (ln.length + 1 ≤ maxLen ∧ (ln.length + 1) * 72 ≤ 140737488355328) := hid (by have := HN4.out.many; unfold maxLen; omega)
      clear hj hb4 HN3 JO HD3 HG3 IT
      have hA := below_new w4 (.cells #[.int .i64 lv, .int .i64 kd, .string nm, .string tx, .slice ja jn jc] 32)
      have HNA := hid (heap_alloc_new w4 (.cells #[.int .i64 lv, .int .i64 kd, .string nm, .string tx, .slice ja jn jc] 32))
      have HA := hid hA
      clear hA
      go_wp2_with (at_builtin; refine wpList_append_lies _ rfl (.tmp 14) (.tmp 19) 22 rfl w.heap.size 32 i0 (.agg #[.int .i64 0, .int .i64 0, .string ⟨#[]⟩, .string ⟨#[]⟩, .slice none 0 0]) 5 72 Tryd.underlying22 I0 I1 I2 I3 rfl (by decide) u3 ln.length (encI ln) rfl (World.ownsRow.alloc HN4.out.row.1 _) ⟨w4.heap.size, 0, none⟩ 1 1 [.int .i64 lv, .int .i64 kd, .string nm, .string tx, .slice ja jn jc] rfl rfl (World.news_of_block HNA.out) ?k1 (by decide) HM.out.1 HM.out.2 ?k2 (w4.heap.size + 1) ?k3 ?_)
      case k1 =>
        intro u hu
        simp only [List.mem_cons, List.not_mem_nil, or_false] at hu
        rcases hu with rfl | rfl | rfl | rfl | rfl <;> rfl
      case k2 => exact Nat.le_trans HN4.out.below.size HA.out.size
      case k3 => simp
      intro g' cap' w5 hown hgrow hgl hg5
      have hrow : ItmRow w.heap.size (.slice (some ⟨g', 0, none⟩) (ln.length + 1) cap') (ln ++ [(⟨lv, kd, nm, tx, ats⟩, .slice ja jn jc)]) w5 := by
        refine ⟨by rw [encI_snoc, List.length_append]; exact hown, fun x hx => ?_⟩
        have keep : ∀ {y : Value} {q : Nat} {xs : List Value}, w4.ownsRow w.heap.size 34 2 y q xs → w5.ownsRow w.heap.size 34 2 y q xs := fun h => World.ownsRow.kept (World.ownsRow.alloc h _) hgrow (rows_apart h HN4.out.row.1 (by decide))
        rcases List.mem_append.1 hx with hx | hx
        · exact keep (HN4.out.row.2 x hx)
        · simp only [List.mem_singleton] at hx
          subst hx
          exact keep HJR.out
      have hb5 : Below w.heap.size w w5 := (HN4.out.below.trans (HA.out.mono HN4.out.below.size)).grown hgrow (Nat.le_trans HN4.out.below.size HA.out.size) (fun k hk => by
        rcases HN4.out.row.1.2 with ⟨rfl, _⟩ | ⟨q, _, _, rfl, hq, _⟩
        · cases hk
        · simp only [Value.ownBlock, Option.some.injEq] at hk
          omega)
      have hs5 : (w4.alloc (.cells #[.int .i64 lv, .int .i64 kd, .string nm, .string tx, .slice ja jn jc] 32)).heap.size ≤ w5.heap.size := hgrow.size
      have hr5 : RestAt g (.slice (some ⟨g, o', none⟩) L.length cp') L w5 := (HN4.out.rest.below HA.out).grown hgrow hs5 HN4.out.apart
      have hap : (Value.slice (some ⟨g', 0, none⟩) (ln.length + 1) cap').ownBlock ≠ some g := by
        intro h
        simp only [Value.ownBlock, Option.some.injEq] at h
        subst h
        rcases hgl with h | h
        · exact HN4.out.apart h
        · obtain ⟨_, _, _, _, h9⟩ := HN4.out.rest
          obtain ⟨_, _, hlt, _⟩ := h9 h0
          omega
      have HN5 : Hid (ItmRow w.heap.size (.slice (some ⟨g', 0, none⟩) (ln.length + 1) cap') (ln ++ [(⟨lv, kd, nm, tx, ats⟩, .slice ja jn jc)]) w5 ∧ Below w.heap.size w w5 ∧ RestAt g (.slice (some ⟨g, o', none⟩) L.length cp') L w5 ∧ (Value.slice (some ⟨g', 0, none⟩) (ln.length + 1) cap').ownBlock ≠ some g) := hid ⟨hrow, hb5, hr5, hap⟩
      clear hrow hb5 hr5 hap hown hgrow hgl hg5 hs5 HA HNA
      go_wp2
      refine ⟨⟨L.drop r, ln ++ [(⟨lv, kd, nm, tx, ats⟩, .slice ja jn jc)], hid ⟨?_, ?_, HN5.out.1, HN5.out.2.2.2, HN5.out.2.1, fun x hx => HN4.out.part x (List.mem_of_mem_drop hx), ?_, ?_⟩⟩, ?_⟩
      · rw [← HN4.out.made, HST.out]
        simp
      · obtain ⟨_, _, h6, h7, h9⟩ := HN5.out.2.2.1
        obtain ⟨o2, e2, hlt, hd⟩ := h9 h0
        simp only [Value.slice.injEq] at h6
        obtain ⟨q1, _, q3⟩ := h6
        subst q3
        rw [← q1] at e2
        simp only [Option.some.injEq, Addr.mk.injEq, true_and, and_true] at e2
        subst e2
        refine ⟨_, _, by rw [List.length_drop], by rw [List.length_drop]; omega, fun hn => ?_⟩
        have hrl3 : r < L.length := by
          rcases Nat.lt_or_ge r L.length with t | t
          · exact t
          · exact absurd (List.drop_eq_nil_of_le t) hn
        refine ⟨o' + r * 5, by rw [if_neg (by omega)], hlt, fun q hq => ?_⟩
        rw [List.length_drop] at hq
        have := hd (r + q) (by omega)
        rw [show o' + (r + q) * 5 = o' + r * 5 + q * 5 by omega] at this
        simpa [List.getElem_drop] using this
      · have := HN4.out.many
        simp only [List.length_append, List.length_singleton, List.length_drop]
        omega
      · rw [List.map_drop]
        exact Nat.le_trans (S.texts_drop_le _ _) HN4.out.bytes
      · show L.length - r < L.length
        omega
end Go.Proofs.YtmnegpdegfianaaDoor
