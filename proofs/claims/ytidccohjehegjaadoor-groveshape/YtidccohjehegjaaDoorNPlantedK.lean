/- The walk of grove's plant: items laid as nodes. -/
import Derived.Test.YtidccohjehegjaaDoorK4
import Derived.Deep.CutRange
import Derived.Test.YtidccohjehegjaaDoorK6
namespace Go.Proofs.YtidccohjehegjaaDoor
open Go.RowKit Go.Shelf
namespace N
open T
theorem own_take {w : World} {B : Nat} {g n m c : Nat} {xs : List Value} (h : w.ownsRow B 3 1 (.slice (some ⟨g, 0, none⟩) n c) n xs) (hm : m ≤ n) : w.ownsRow B 3 1 (.slice (some ⟨g, 0, none⟩) m c) m (xs.take m) := by
  obtain ⟨h1, h2⟩ := h
  refine ⟨by rw [List.length_take]; omega, ?_⟩
  rcases h2 with ⟨q, _⟩ | ⟨g', cap, cur, q, q1, q2, q3, q4, q5, q6⟩
  · cases q
  · simp only [Value.slice.injEq, Option.some.injEq, Addr.mk.injEq, true_and, and_true] at q
    obtain ⟨rfl, rfl⟩ := q
    refine Or.inr ⟨g, c, cur, rfl, q1, q2, by omega, q4, q5, ?_⟩
    rw [← q6, List.take_take]
    congr 1
    omega
set_option maxRecDepth 100000 in
set_option maxHeartbeats 16000000 in
theorem plant_any {B tb mb : Nat} {L0 : List NS} {w : World} (rt nx par : Int) (V Vi : Value) (l : List IV) (il : List Int) (R : List Row) (g : F)
    (I : Hid (ItemsIn V l w)) (J : Hid (IntsIn Vi il w)) (hR : Hid (R = il.zip (l.map (·.1)))) (hlen : il.length = l.length) (hn : l.length ≤ 100000) (hg : Hid (rows g 0 = R)) (hs : Hid (stairs 0 0 R)) (hd : Hid ((ids g).Nodup)) (hp : Hid (par ∉ ids g))
    (hf : Hid (∀ i ∈ il, i ∉ (idg L0).map (·.1) ∧ wfI i)) (hbig : Hid (L0.length ≤ 100000)) (hat : Hid (∀ x ∈ l, x.1.attrs.length ≤ 100000))
    (G : Hid (GraphIn B mb L0 w)) (ht : Hid (w.heap[tb]? = some (.cells #[.map (some mb), .int .i64 rt, .int .i64 nx] 64 (0, 0)))) (htb : tb ≠ mb) :
    Calls Tryd.prog 31 #[.pointer (some ⟨tb, 0, none⟩), .int .i64 par, V, Vi] w fun e w' => ∃ V' L1, e = .returned V' ∧ IntRow w.heap.size V' (tops g) w' ∧ L1.map (·.1) = T.ents g par ∧ GraphIn B mb (L0 ++ L1) w' ∧ (∀ b ∈ allB L1, w.heap.size ≤ b) ∧ (∀ q, V'.ownBlock = some q → q ∉ mb :: allB (L0 ++ L1)) ∧ w.grownBy w' (some mb) := by
  obtain ⟨ao, cap, rfl, hl, hc⟩ := I.out.1
  obtain ⟨ai, ci, rfl, hil, hci⟩ := J.out
  have HA : Hid (∀ x ∈ l, AttrsIn x.2 x.1.attrs w) := hid I.out.2
  have HC := hid hc
  have HCI := hid hci
  have HRL : Hid (R.length = l.length) := hid (by rw [hR.out]; simp [hlen])
  have HLN := hid hlen
  clear hlen
  clear hc hci I J
  obtain ⟨a0, A0, A1, A2, A3⟩ := info_parts infoInt
  go_enter Tryd.func31, Tryd.ntmps31
  go_wp2_with fail
  go_loopw [9, 10, 11, 12, 13, 14, 19] (fun v9 v10 _ _ _ _ v19 X => ∃ (k : Nat) (Lk : List NS), v19 = .int .i64 (k : Int) ∧ k ≤ l.length ∧ Hid (PL B mb L0 R par w k Lk v9 v10 X)) (fun _ _ _ _ _ _ v19 _ => l.length - (intOf v19).toNat)
  case atStart =>
    refine ⟨0, [], rfl, by omega, hid ?_⟩
    have hA := grow w (.cells #[.int .i64 par] 3)
    have hlt := G.out.lt
    refine ⟨rfl, ⟨by simp [laid_zero, T.start, encK], Or.inl ⟨rfl, rfl⟩⟩, ⟨by simp [laid_zero, T.start, encK], Or.inr ⟨w.heap.size, 1, _, rfl, Nat.le_refl _, heap_alloc_new w _, by simp [laid_zero, T.start], by decide, by simp, by simp [laid_zero, T.start, encK]⟩⟩, by rw [List.append_nil]; exact G.out.below hA, by simp [allB], Or.inl rfl, fun g hg => (by cases hg), fun g hg q => ?_, gb_below hA⟩
    simp only [Value.ownBlock, Option.some.injEq] at hg
    rw [List.append_nil] at q
    have := hlt g q
    omega
  case round =>
    obtain ⟨k, Lk, rfl, hk, HP⟩ := hrel
    obtain ⟨a9, c9, rfl⟩ := HP.out.top.form
    obtain ⟨a10, c10, rfl⟩ := HP.out.ab.form
    by_cases h1 : k < l.length
    · have h1' : (k : Int) < (l.length : Int) := by omega
      have hkR : k < R.length := by rw [HRL.out]; exact h1
      have hki : k < il.length := by rw [HLN.out]; exact h1
      have hki' : (k : Int) < (il.length : Int) := by omega
      have HRK : Hid (R[k] = (il[k], l[k].1)) := hid (by have := hR.out; subst this; simp)
      obtain ⟨gi, oi, rfl, hgi, hci⟩ := HC.out (by rintro rfl; simp at h1)
      obtain ⟨gj, oj, rfl, hgj, hcj⟩ := HCI.out (by rintro rfl; simp at hki)
      have KC : Hid (∀ (a : Addr) (v : Value), w.cell? a = some v → wr.cell? a = some v) := hid (fun a v hv => by
        obtain ⟨D, ⟨es, cl, hb, _⟩, _⟩ := G.out.map.own
        exact cell_keep HP.out.keep hb hv)
      obtain ⟨k0, k1, k2, k3, k4⟩ := hci k h1
      have c0 := KC.out _ _ k0
      have c1 := KC.out _ _ k1
      have c2 := KC.out _ _ k2
      have c3 := KC.out _ _ k3
      have c4 := KC.out _ _ k4
      have j0 := KC.out _ _ (hcj k hki)
      have t0 : wr.cell? ⟨tb, 0, none⟩ = some (.map (some mb)) := KC.out _ _ (by rw [Lib.cell_of_heap ht.out]; rfl)
      clear k0 k1 k2 k3 k4 hci hcj
      obtain ⟨q0, q1, q2⟩ := laid_at (par := par) hs.out hkR
      obtain ⟨lv, HLV⟩ : ∃ lv : Nat, Hid (l[k].1.level = (lv : Int)) := ⟨l[k].1.level.toNat, hid (by rw [HRK.out] at q0; simp only at q0; omega)⟩
      have q1' : lv + 1 ≤ (laidP par R k).ab.length := by rw [HRK.out] at q1; simp only [HLV.out, Int.toNat_natCast] at q1; exact q1
      obtain ⟨ga, ca, ea, _, hga, hca, hcc⟩ := HP.out.ab.cells (by rintro e; rw [e] at q1'; simp at q1')
      simp only [Value.slice.injEq] at ea
      obtain ⟨rfl, -, rfl⟩ := ea
      obtain ⟨pi, HPI⟩ : ∃ pi, Hid ((laidP par R k).ab.getD lv 0 = pi) := ⟨_, hid rfl⟩
      have b0 : wr.cell? ⟨ga, lv, none⟩ = some (.int .i64 pi) := by
        rw [hcc lv (by omega), ← HPI.out, List.getD_eq_getElem?_getD, List.getElem?_eq_getElem (by omega)]; rfl
      have hlv : (lv : Int) < ((laidP par R k).ab.length : Int) := by omega
      rw [HLV.out] at c0
      have Q2 := hid q2
      clear hcc q0 q1 q2
      obtain ⟨xk, HXK⟩ : ∃ xk, Hid (l[k].1 = xk) := ⟨_, hid rfl⟩
      rw [HXK.out] at c1 c2 c3 HRK HLV
      obtain ⟨aa, na, ac, hvk⟩ : ∃ a n c, l[k].2 = .slice a n c := by
        obtain ⟨a, c, h, _⟩ := HA.out _ (List.getElem_mem h1)
        exact ⟨_, _, _, h⟩
      have HVK := hid hvk
      rw [hvk] at c4
      clear hvk
      obtain ⟨nab, HNAB⟩ : ∃ nab, Hid ((laidP par R k).ab.length = nab) := ⟨_, hid rfl⟩
      obtain ⟨ntp, HNTP⟩ : ∃ ntp, Hid ((laidP par R k).top.length = ntp) := ⟨_, hid rfl⟩
      obtain ⟨idk, HIDK⟩ : ∃ idk, Hid (il[k] = idk) := ⟨_, hid rfl⟩
      rw [HIDK.out] at j0 HRK
      rw [HNAB.out] at hlv
      rw [HNAB.out, HNTP.out]
      obtain ⟨lx, kd, nm, tx, ats⟩ := xk
      dsimp only at *
      go_wp2_with fail
      have hb1 := grow wr (.cells #[.int .i64 (lv : Int), .int .i64 kd, .string nm, .string tx, .slice aa na ac] 49)
      have hn1 := heap_alloc_new wr (.cells #[.int .i64 (lv : Int), .int .i64 kd, .string nm, .string tx, .slice aa na ac] 49)
      generalize wr.alloc (.cells #[.int .i64 (lv : Int), .int .i64 kd, .string nm, .string tx, .slice aa na ac] 49) = X1 at hb1 hn1 ⊢
      obtain ⟨ib, HIB⟩ : ∃ ib, Hid (wr.heap.size = ib) := ⟨_, hid rfl⟩
      rw [HIB.out] at hn1 hb1 hga ⊢
      have HP1 : Hid (PL B mb L0 R par w k Lk (.slice a9 ntp c9) (.slice (some ⟨ga, 0, none⟩) nab c10) X1) := hid (by rw [← HNTP.out, ← HNAB.out]; exact HP.out.below (by rw [HIB.out]; exact hb1))
      have HN1 := hid hn1
      have x0 : X1.cell? ⟨ib, 0, none⟩ = some (.int .i64 (lv : Int)) := by rw [Lib.cell_of_heap hn1]; rfl
      have hgi' : gi < ib := by rw [← HIB.out]; exact Nat.lt_of_lt_of_le hgi HP.out.keep.size
      have hgj' : gj < ib := by rw [← HIB.out]; exact Nat.lt_of_lt_of_le hgj HP.out.keep.size
      have y0 := (hb1.cell (p := ⟨gj, oj + k, none⟩) hgj').trans j0
      have y1 := (hb1.cell (p := ⟨ga, lv, none⟩) hga).trans b0
      have HIBW : Hid (w.heap.size ≤ ib) := hid (by rw [← HIB.out]; exact HP.out.keep.size)
      have HIB9 : Hid (∀ q, (Value.slice a9 ntp c9).ownBlock = some q → q ≠ ib) := hid (fun q hq => by
        have h := own_lt HP.out.top (g := q) (by rw [HNTP.out]; exact hq)
        have := HIB.out
        omega)
      have HIB10 : Hid (∀ q, (Value.slice (some ⟨ga, 0, none⟩) nab c10).ownBlock = some q → q ≠ ib) := hid (fun q hq => by
        simp only [Value.ownBlock, Option.some.injEq] at hq
        omega)
      have HIBL : Hid (ib ∉ mb :: allB (L0 ++ Lk)) := hid (fun q => by
        have := HP.out.graph.lt ib q
        have := HIB.out
        omega)
      have HFR : Hid (idk ∉ (idg (L0 ++ Lk)).map (·.1)) := hid (by
        rw [idg_app, List.map_append, List.mem_append]
        rintro (q | q)
        · exact (hf.out idk (by rw [← HIDK.out]; exact List.getElem_mem hki)).1 q
        · have e1 : (idg Lk).map (·.1) = (R.take k).map (·.1) := by
            rw [← laid_ids par R k (by omega), ← HP.out.made]
            simp [idg]
          rw [e1] at q
          have hn : (R.map (·.1)).Nodup := by rw [← hg.out, rows_ids]; exact hd.out
          have e2 : R.map (·.1) = (R.take k).map (·.1) ++ (R.drop k).map (·.1) := by rw [← List.map_append, List.take_append_drop]
          rw [e2, List.nodup_append] at hn
          refine hn.2.2 idk q idk ?_ rfl
          rw [List.drop_eq_getElem_cons hkR, List.map_cons, HRK.out]
          exact List.mem_cons_self ..)
      have HLL : Hid ((L0 ++ Lk).length < maxLen) := hid (by
        have h1 := (laid_len par R k (by omega)).1
        rw [← HP.out.made, List.length_map] at h1
        have := hbig.out
        rw [List.length_append]
        unfold maxLen
        omega)
      clear HP hn1 hb1 c0 c1 c2 c3 c4 j0 t0 b0 KC
      go_quiet (fail)
      have HP2 : Hid (PL B mb L0 R par w k Lk (.slice a9 ntp c9) (.slice (some ⟨ga, 0, none⟩) nab c10) (X1.drewN nq)) := hid (HP1.out.below (below_drewN (Below.refl _ _) nq))
      have HN2 : Hid ((X1.drewN nq).heap[ib]? = some (.cells #[.int .i64 (lv : Int), .int .i64 kd, .string nm, .string tx, .slice aa na ac] 49 (0, 0))) := hid HN1.out
      clear HP1 HN1 x0 y0 y1
      generalize X1.drewN nq = X2 at HP2 HN2 ⊢
      obtain ⟨D0, HD0⟩ := G.out.map.own
      obtain ⟨es0, cl0, HM0, _⟩ := HD0.1
      have t2 : X2.cell? ⟨tb, 0, none⟩ = some (.map (some mb)) := cell_keep HP2.out.keep HM0 (by rw [Lib.cell_of_heap ht.out]; rfl)
      have z0 : X2.cell? ⟨ib, 0, none⟩ = some (.int .i64 (lv : Int)) := by rw [Lib.cell_of_heap HN2.out]; rfl
      have z1 : X2.cell? ⟨ib, 1, none⟩ = some (.int .i64 kd) := by rw [Lib.cell_of_heap HN2.out]; rfl
      have z2 : X2.cell? ⟨ib, 2, none⟩ = some (.string nm) := by rw [Lib.cell_of_heap HN2.out]; rfl
      have z3 : X2.cell? ⟨ib, 3, none⟩ = some (.string tx) := by rw [Lib.cell_of_heap HN2.out]; rfl
      have z4 : X2.cell? ⟨ib, 4, none⟩ = some (.slice aa na ac) := by rw [Lib.cell_of_heap HN2.out]; rfl
      have HAK : Hid (AttrsIn (.slice aa na ac) ats X2) := hid (by
        have := HA.out _ (List.getElem_mem h1)
        rw [HVK.out, HXK.out] at this
        exact attrs_keep this HP2.out.keep HM0)
      have hak : ats.length ≤ 100000 := by
        have := hat.out _ (List.getElem_mem h1)
        rw [HXK.out] at this
        exact this
      have EG : Hid (∀ args w, (callFunc 29 args).run Tryd.prog w = .ok (.enter 29 args) w) := hid (enters_of Tryd.func29 (by kernel_rfl) rfl)
      have hibX : ib < X2.heap.size := lt_of_block HN2.out
      have htbX : tb < X2.heap.size := Nat.lt_of_lt_of_le (lt_of_block ht.out) HP2.out.keep.size
      have MID : Hid (∀ w5 va vc, w5.ownsRow X2.heap.size 79 2 (.slice va ats.length vc) ats.length (encL ats) → Below X2.heap.size X2 w5 → ∃ w6, (Instr.mapUpdate 62 (.map (some mb)) (.int .i64 idk) (.pointer (some ⟨w5.heap.size, 0, none⟩))).run Tryd.prog (w5.alloc (.cells #[.int .i64 idk, .int .i64 pi, .int .i64 kd, .int .i64 0, .string nm, .string tx, .slice va ats.length vc, .slice none 0 0] 60)) = .ok () w6 ∧
          PM B mb L0 R par w k Lk ⟨idk, pi, ⟨0, kd, nm, tx, ats⟩, []⟩ ⟨w5.heap.size, .slice va ats.length vc, .slice none 0 0⟩ ib #[.int .i64 (lv : Int), .int .i64 kd, .string nm, .string tx, .slice aa na ac] (.slice a9 ntp c9) (.slice (some ⟨ga, 0, none⟩) nab c10) w6 ∧ X2.grownBy w6 (some mb)) := hid (fun w5 va vc o5 b5 => by
        refine mid HP2.out HN2.out ?_ ?_ ?_ ?_ b5 o5 ?_ ?_ ?_
        · exact HIBW.out
        · exact HIB9.out
        · exact HIB10.out
        · exact HIBL.out
        · exact (hf.out idk (by rw [← HIDK.out]; exact List.getElem_mem hki)).2
        · exact HFR.out
        · exact HLL.out)
      clear HD0 HM0
      go_wp2_with fail
      have SB : Hid (∀ w' : World, X2.grownBy w' (some mb) → (w'.cell? ⟨tb, 0, none⟩ = some (.map (some mb)) ∧ w'.cell? ⟨ib, 1, none⟩ = some (.int .i64 kd) ∧ w'.cell? ⟨ib, 2, none⟩ = some (.string nm) ∧ w'.cell? ⟨ib, 3, none⟩ = some (.string tx) ∧ w'.cell? ⟨ib, 4, none⟩ = some (.slice aa na ac))) := hid (fun w' hw => by
        obtain ⟨D1, ⟨es1, cl1, HM1, _⟩, _⟩ := HP2.out.graph.map.own
        exact ⟨cell_keep hw HM1 t2, cell_keep hw HM1 z1, cell_keep hw HM1 z2, cell_keep hw HM1 z3, cell_keep hw HM1 z4⟩)
      clear z0 z1 z2 z3 z4 t2 EG
      go_region_held3 (fun w' => w'.cell? ⟨tb, 0, none⟩ = some (.map (some mb)) ∧ w'.cell? ⟨ib, 1, none⟩ = some (.int .i64 kd) ∧ w'.cell? ⟨ib, 2, none⟩ = some (.string nm) ∧ w'.cell? ⟨ib, 3, none⟩ = some (.string tx) ∧ w'.cell? ⟨ib, 4, none⟩ = some (.slice aa na ac)) ((refine SB.out _ ?_; first | exact HG6.out | exact gb_below HB5.out | exact gb_below (HB5.out.alloc HB5.out.size _) | exact gb_below ((Below.refl _ _).drew) | exact gb_below (Below.refl _ _))) (first
        | (go_at_call 29
           refine (own_any _ ats X2.drew (hid (HAK.out.below (Below.refl _ _).drew)) (by omega)).mono ?_
           rintro e w5 ⟨v, rfl, o5, b5⟩
           obtain ⟨va, vc, rfl⟩ := slice_of o5
           have b5' : Below X2.heap.size X2 w5 := (Below.refl _ _).drew.trans b5
           obtain ⟨w6, hr6, hm6, hg6⟩ := MID.out w5 va vc o5 b5'
           have HM6 := hid hm6
           have HG6 := hid hg6
           have HB5 := hid b5'
           clear hm6 o5 b5 b5' hg6))
      have x0 : w6.cell? ⟨ib, 0, none⟩ = some (.int .i64 (lv : Int)) := by rw [Lib.cell_of_heap HM6.out.item]; rfl
      have hx1 : R[k].1 = idk := by rw [HRK.out]
      have hx2 : R[k].2.level.toNat = lv := by rw [HRK.out]; simp only [HLV.out, Int.toNat_natCast]
      have HX1 := hid hx1
      have HX2 := hid hx2
      have HE : Hid ((⟨idk, pi, ⟨0, kd, nm, tx, ats⟩, []⟩ : Nd) = ⟨R[k].1, pi, atL R[k].2 0, []⟩) := hid (by rw [HRK.out]; rfl)
      have hcap1 : (lv : Int) + 1 ≤ (c10 : Int) := by have := q1'; rw [HNAB.out] at this; omega
      have hcap2 : (0 : Int) ≤ (lv : Int) + 1 := by omega
      have hlvb : (lv : Int) ≤ 100000 := by
        have := (laid_len par R k (by rw [HRL.out]; exact hk)).2.2
        omega
      have DA : Hid (∀ Lk' v9' X (g' cap' : Nat) X' o, PN B mb L0 R par w k Lk' ib #[.int .i64 (lv : Int), .int .i64 kd, .string nm, .string tx, .slice aa na ac] v9' (.slice (some ⟨ga, 0, none⟩) nab c10) X → X'.ownsRow w.heap.size 3 1 (.slice (some ⟨g', 0, none⟩) (lv + 1 + 1) cap') (lv + 1 + 1) ((encK (laidP par R k).ab).take (lv + 1) ++ [.int .i64 idk]) → (X.alloc o).grownBy X' (Value.slice (some ⟨ga, 0, none⟩) (lv + 1) c10).ownBlock → ((Value.slice (some ⟨ga, 0, none⟩) (lv + 1) c10).ownBlock = some g' ∨ g' = (X.alloc o).heap.size) → PL B mb L0 R par w (k + 1) Lk' v9' (.slice (some ⟨g', 0, none⟩) (lv + 1 + 1) cap') X') := hid (fun Lk' v9' X g' cap' X' o h1 h2 h3 h4 => ab_next h1 hkR rfl HX1.out HX2.out q1' h2 h3 h4)
      have HMA : Hid (lv + 1 + 1 ≤ maxLen ∧ (lv + 1 + 1) * 8 ≤ 140737488355328) := hid (by
        have := (laid_len par R k (by rw [HRL.out]; exact hk)).2.2
        unfold maxLen; omega)
      clear hr6 SB MID HB5 HG6 HAK hx1 hx2
      by_cases h0 : lv = 0
      · have h0' : ((lv : Int) == 0) = true := by simp [h0]
        have HM : Hid (ntp + 1 ≤ maxLen ∧ (ntp + 1) * 8 ≤ 140737488355328) := hid (by
          have := (laid_len par R k (by rw [HRL.out]; exact hk)).2.1
          rw [HNTP.out] at this
          unfold maxLen; omega)
        have DT : Hid (∀ (g' cap' : Nat) X' o, X'.ownsRow w.heap.size 3 1 (.slice (some ⟨g', 0, none⟩) (ntp + 1) cap') (ntp + 1) (encK (laidP par R k).top ++ [.int .i64 idk]) → (w6.alloc o).grownBy X' (Value.slice a9 ntp c9).ownBlock → ((Value.slice a9 ntp c9).ownBlock = some g' ∨ g' = (w6.alloc o).heap.size) → PN B mb L0 R par w k (Lk ++ [(⟨idk, pi, ⟨0, kd, nm, tx, ats⟩, []⟩, ⟨w5.heap.size, .slice va ats.length vc, .slice none 0 0⟩)]) ib #[.int .i64 (lv : Int), .int .i64 kd, .string nm, .string tx, .slice aa na ac] (.slice (some ⟨g', 0, none⟩) (ntp + 1) cap') (.slice (some ⟨ga, 0, none⟩) nab c10) X') := hid (fun g' cap' X' o h1 h2 h3 => top_next HM6.out hkR rfl (by rw [HX2.out, h0]) (by rw [HE.out, ← HPI.out, h0]) HNTP.out.symm (by rw [HX1.out]; exact h1) h2 h3)
        clear h0
        go_wp2_with (first
          | (at_builtin; refine wpList_append_lies _ rfl (.tmp 55) (.tmp 57) 36 rfl w.heap.size 3 a0 (.int .i64 0) 1 8 Tryd.underlying36 A0 A1 A2 A3 rfl (by decide) _ ntp (encK (laidP par R k).top) rfl (World.ownsRow.alloc (by have := HM6.out.top; unfold IntRow at this; rwa [HNTP.out] at this) _) ⟨w6.heap.size, 0, none⟩ 1 1 [.int .i64 idk] rfl rfl (World.news_of_block (heap_alloc_new w6 _)) (by intro u hu; simp only [List.mem_cons, List.not_mem_nil, or_false] at hu; rcases hu with rfl; rfl) (by decide) HM.out.1 HM.out.2 (by have := HM6.out.keep.size; simp; omega) _ rfl ?_
             intro g7 cap7 w7 hown7 hgrow7 hloc7 _
             have HN7 := hid (DT.out g7 cap7 w7 _ hown7 hgrow7 hloc7)
             have x7 : w7.cell? ⟨ib, 0, none⟩ = some (.int .i64 (lv : Int)) := by rw [Lib.cell_of_heap HN7.out.item]; rfl
             clear hown7 hgrow7 hloc7)
          | (at_builtin; refine wpList_append_lies _ rfl (.tmp 83) (.tmp 85) 36 rfl w.heap.size 3 a0 (.int .i64 0) 1 8 Tryd.underlying36 A0 A1 A2 A3 rfl (by decide) _ (lv + 1) ((encK (laidP par R k).ab).take (lv + 1)) rfl (World.ownsRow.alloc (own_take (by have := HN7.out.ab; unfold IntRow at this; rwa [HNAB.out] at this) (by rw [← HNAB.out]; exact q1')) _) ⟨w7.heap.size, 0, none⟩ 1 1 [.int .i64 idk] rfl rfl (World.news_of_block (heap_alloc_new w7 _)) (by intro u hu; simp only [List.mem_cons, List.not_mem_nil, or_false] at hu; rcases hu with rfl; rfl) (by decide) HMA.out.1 HMA.out.2 (by have := HN7.out.keep.size; simp; omega) _ rfl ?_
             intro g8 cap8 w8 hown8 hgrow8 hloc8 _
             have HP8 := hid (DA.out _ _ _ g8 cap8 w8 _ HN7.out hown8 hgrow8 hloc8)
             clear hown8 hgrow8 hloc8))
        clear DT DA
        exact ⟨⟨k + 1, _, by go_num, by omega, HP8⟩, by simp [intOf]; omega⟩
      · have h0' : ((lv : Int) == 0) = false := by simp [h0]
        have hpm : pi ∈ (Lk.map (·.1)).map (·.id) := by
          have := Q2.out (by rw [HX2.out]; exact h0)
          rw [HX2.out, HPI.out] at this
          rw [HM6.out.made]
          exact this
        have hpw : wfI pi := by
          rw [HM6.out.made, laid_ids par R k (by omega)] at hpm
          obtain ⟨r, hr1, hr2⟩ := List.mem_map.1 hpm
          have hr3 := (List.take_sublist k R).subset hr1
          rw [hR.out] at hr3
          have := (List.of_mem_zip hr3).1
          rw [← hr2]
          exact (hf.out _ this).2
        obtain ⟨ep, sp, A, Bk, hLk, hep⟩ : ∃ ep sp A Bk, Lk = A ++ (ep, sp) :: Bk ∧ ep.id = pi := by
          simp only [List.map_map, List.mem_map, Function.comp_apply] at hpm
          obtain ⟨⟨ep, sp⟩, hm, hq⟩ := hpm
          obtain ⟨A, Bk, hAB⟩ := List.append_of_mem hm
          exact ⟨ep, sp, A, Bk, hAB, hq⟩
        have HEP := hid hep
        have HLK := hid hLk
        have hm6 : (ep, sp) ∈ L0 ++ (Lk ++ [(⟨idk, pi, ⟨0, kd, nm, tx, ats⟩, []⟩, ⟨w5.heap.size, .slice va ats.length vc, .slice none 0 0⟩)]) := by rw [hLk]; simp
        have hn6 := HM6.out.graph.nodes _ hm6
        obtain ⟨bq1, bq2, bq3⟩ := blks_parts (blks_nodup HM6.out.graph hm6)
        dsimp only at hn6 bq1 bq2 bq3
        have hmbg : mb ∉ blks sp := by
          have := HM6.out.graph.nd
          simp only [List.nodup_cons] at this
          exact fun q => this.1 (List.mem_flatMap.2 ⟨(ep, sp), hm6, q⟩)
        obtain ⟨ka, kc, hkv⟩ := slice_of hn6.kids
        have hlk6 : look (idg (L0 ++ (Lk ++ [(⟨idk, pi, ⟨0, kd, nm, tx, ats⟩, []⟩, ⟨w5.heap.size, .slice va ats.length vc, .slice none 0 0⟩)]))) pi = some sp.g := look_mem HM6.out.graph.map.nd (List.mem_map.2 ⟨(ep, sp), hm6, by rw [← hep]⟩)
        have htw : tb ≠ mb ∧ tb < w.heap.size := ⟨htb, lt_of_block ht.out⟩
        have hnew6 : ∀ b ∈ blks sp, w.heap.size ≤ b := fun b hb => HM6.out.new b (by rw [hLk]; exact List.mem_flatMap.2 ⟨(ep, sp), by simp, hb⟩)
        have t6 : w6.heap[tb]? = some (.cells #[.map (some mb), .int .i64 rt, .int .i64 nx] 64 (0, 0)) := (HM6.out.keep.block tb htw.2 (fun q => htb (by simpa using q))).trans ht.out
        have SB : Hid (∀ w' : World, w'.heap[mb]? = w6.heap[mb]? → w'.heap[tb]? = w6.heap[tb]? → (w'.cell? ⟨tb, 0, none⟩ = some (.map (some mb)) ∧ (Instr.lookup 62 (.map (some mb)) (.int .i64 pi) false).run Tryd.prog w' = .ok (.pointer (some ⟨sp.g, 0, none⟩)) w')) := hid (fun w' h1 h2 => ⟨by rw [Lib.cell_of_heap (h2.trans t6)]; rfl, by rw [get (HM6.out.graph.map.kept h1) hpw, hlk6]; rfl⟩)
        have KC : Hid (∀ w' : World, w'.heap[sp.g]? = w6.heap[sp.g]? → w'.cell? ⟨sp.g, 7, none⟩ = some (.slice ka ep.kids.length kc) ∧ w'.frozen? ⟨sp.g, 7, none⟩ = false) := hid (fun w' h1 => by
          have h2 := h1.trans hn6.cell
          exact ⟨by rw [Lib.cell_of_heap h2, ← hkv]; rfl, Lib.frozen_of_heap h2 7⟩)
        have DK : Hid (∀ (g' cap' : Nat) X5 o, X5.ownsRow B 3 1 (.slice (some ⟨g', 0, none⟩) (ep.kids.length + 1) cap') (ep.kids.length + 1) (encK ep.kids ++ [.int .i64 idk]) → (w6.alloc o).grownBy X5 (Value.slice ka ep.kids.length kc).ownBlock → ((Value.slice ka ep.kids.length kc).ownBlock = some g' ∨ g' = (w6.alloc o).heap.size) →
            PN B mb L0 R par w k ((A ++ ({ ep with kids := ep.kids ++ [idk] }, ⟨sp.g, sp.av, .slice (some ⟨g', 0, none⟩) (ep.kids.length + 1) cap'⟩) :: Bk) ++ [(⟨idk, pi, ⟨0, kd, nm, tx, ats⟩, []⟩, ⟨w5.heap.size, .slice va ats.length vc, .slice none 0 0⟩)]) ib #[.int .i64 (lv : Int), .int .i64 kd, .string nm, .string tx, .slice aa na ac] (.slice a9 ntp c9) (.slice (some ⟨ga, 0, none⟩) nab c10) (X5.setCell ⟨sp.g, 7, none⟩ (.slice (some ⟨g', 0, none⟩) (ep.kids.length + 1) cap'))) := hid (fun g' cap' X5 o h1 h2 h3 => by
          have hP := HM6.out
          rw [HLK.out] at hP
          have q := kid_next (rk := R[k]) (pi := pi) hP hkR rfl (by rw [HX2.out]; exact h0) (by rw [HX2.out]; exact HPI.out) HEP.out HE.out (by rw [HX1.out]; exact h1) (by rw [hkv]; exact h2) (by rw [hkv]; exact h3)
          rw [HX1.out] at q
          exact q)
        have HKR : Hid (w6.ownsRow B 3 1 (.slice ka ep.kids.length kc) ep.kids.length (encK ep.kids)) := hid (by have := hn6.kids; rw [hkv] at this; exact this)
        have HKB : Hid (∀ b, (Value.slice ka ep.kids.length kc).ownBlock = some b → b ≠ mb ∧ b ≠ tb ∧ b ≠ sp.g ∧ w.heap.size ≤ b) := hid (fun b hb => by
          rw [← hkv] at hb
          have h1 : b ∈ blks sp := mem_blks.2 (Or.inr (Or.inr hb))
          have h2 := hnew6 b h1
          exact ⟨fun q => hmbg (by rw [← q]; exact h1), by omega, bq2 b hb, h2⟩)
        have HMK : Hid (ep.kids.length + 1 ≤ maxLen ∧ (ep.kids.length + 1) * 8 ≤ 140737488355328) := hid (by
          have h1 := laid_kids par R k (by omega) ep (by rw [← HM6.out.made, HLK.out]; simp)
          unfold maxLen
          omega)
        have hmb6 : mb < w6.heap.size := HM6.out.graph.map.lt
        have htb6 : tb < w6.heap.size := lt_of_block t6
        have hsg6 : sp.g < w6.heap.size := lt_of_block hn6.cell
        have HBB : Hid (B ≤ w6.heap.size) := hid (by have := HM6.out.graph.ge mb (List.mem_cons_self ..); omega)
        have HSN : Hid (mb ≠ sp.g ∧ tb ≠ sp.g) := hid ⟨fun q => hmbg (by rw [q]; exact mem_blks.2 (Or.inl rfl)), fun q => by have := hnew6 sp.g (mem_blks.2 (Or.inl rfl)); omega⟩
        have hA6 := grow w6 (.cells #[.int .i64 idk] 3)
        have e1 := (KC.out w6.drew rfl).1
        have e2 := (KC.out (w6.alloc (.cells #[.int .i64 idk] 3)).drew (hA6.block sp.g hsg6)).1
        have hA6 := hid hA6
        clear hpm hpw hep hLk hm6 hn6 bq1 bq2 bq3 hmbg hkv hlk6 htw hnew6 t6 h0 HP2 HN2
        go_upto_region 10 with fail
        go_cut [14] from 20 to 87 (fun s14 wx => s14 = .int .i64 pi ∧ ∃ Lk', Hid (PN B mb L0 R par w k Lk' ib #[.int .i64 (lv : Int), .int .i64 kd, .string nm, .string tx, .slice aa na ac] (.slice a9 ntp c9) (.slice (some ⟨ga, 0, none⟩) nab c10) wx))
        case first =>
          have HS0 : Hid (w6.drew.cell? ⟨tb, 0, none⟩ = some (.map (some mb)) ∧ (Instr.lookup 62 (.map (some mb)) (.int .i64 pi) false).run Tryd.prog w6.drew = .ok (.pointer (some ⟨sp.g, 0, none⟩)) w6.drew ∧ w6.drew.cell? ⟨sp.g, 7, none⟩ = some (.slice ka ep.kids.length kc)) := hid ⟨(SB.out w6.drew rfl rfl).1, (SB.out w6.drew rfl rfl).2, (KC.out w6.drew rfl).1⟩
          have HS1 : Hid ((w6.alloc (.cells #[.int .i64 idk] 3)).drew.cell? ⟨tb, 0, none⟩ = some (.map (some mb)) ∧ (Instr.lookup 62 (.map (some mb)) (.int .i64 pi) false).run Tryd.prog (w6.alloc (.cells #[.int .i64 idk] 3)).drew = .ok (.pointer (some ⟨sp.g, 0, none⟩)) (w6.alloc (.cells #[.int .i64 idk] 3)).drew ∧ (w6.alloc (.cells #[.int .i64 idk] 3)).drew.cell? ⟨sp.g, 7, none⟩ = some (.slice ka ep.kids.length kc)) := hid (by
            have q := SB.out (w6.alloc (.cells #[.int .i64 idk] 3)).drew (hA6.out.block _ hmb6) (hA6.out.block _ htb6)
            exact ⟨q.1, q.2, (KC.out (w6.alloc (.cells #[.int .i64 idk] 3)).drew (hA6.out.block _ hsg6)).1⟩)
          refine till_begin (z := 20) (S := fun w' => w'.cell? ⟨tb, 0, none⟩ = some (.map (some mb)) ∧ (Instr.lookup 62 (.map (some mb)) (.int .i64 pi) false).run Tryd.prog w' = .ok (.pointer (some ⟨sp.g, 0, none⟩)) w' ∧ w'.cell? ⟨sp.g, 7, none⟩ = some (.slice ka ep.kids.length kc)) (by kernel_rfl) ?_
          refine till_free (i := 0) (v := ?_) rfl (by kernel_rfl) (by kernel_rfl) (by kernel_rfl) (by kernel_rfl) (fun _ _ _ h => h) (Or.inl ⟨by rfl, ?_⟩) HS0.out ?_
          rotate_left
          · intro w' hs; go_simp; (try with_reducible rfl)
          refine till_free (i := 1) (v := ?_) rfl (by kernel_rfl) (by kernel_rfl) (by kernel_rfl) (by kernel_rfl) (fun _ _ _ h => h) (Or.inl ⟨by rfl, ?_⟩) HS0.out ?_
          rotate_left
          · intro w' hs; go_simp; (try with_reducible rfl)
          refine till_free (i := 2) (v := ?_) rfl (by kernel_rfl) (by kernel_rfl) (by kernel_rfl) (by kernel_rfl) (fun _ _ _ h => h) (Or.inl ⟨by rfl, ?_⟩) HS0.out ?_
          rotate_left
          · intro w' hs; go_simp; (try with_reducible rfl)
          refine till_take (i := 3) (v := ?_) rfl (by kernel_rfl) (by kernel_rfl) (by kernel_rfl) (by kernel_rfl) (fun _ _ _ h => h) (Or.inl ⟨by rfl, ?_⟩) HS0.out ?_
          rotate_left
          · intro w' hs; obtain ⟨s1, s2, s3⟩ := hs; go_simp; (try with_reducible rfl)
          refine till_free (i := 4) (v := ?_) rfl (by kernel_rfl) (by kernel_rfl) (by kernel_rfl) (by kernel_rfl) (fun _ _ _ h => h) (Or.inl ⟨by rfl, ?_⟩) HS0.out ?_
          rotate_left
          · intro w' hs; go_simp; (try with_reducible rfl)
          refine till_take (i := 5) (v := ?_) rfl (by kernel_rfl) (by kernel_rfl) (by kernel_rfl) (by kernel_rfl) (fun _ _ _ h => h) (Or.inl ⟨by rfl, ?_⟩) HS0.out ?_
          rotate_left
          · intro w' hs; obtain ⟨s1, s2, s3⟩ := hs; go_simp; (try with_reducible rfl)
          refine till_free (i := 6) (v := ?_) rfl (by kernel_rfl) (by kernel_rfl) (by kernel_rfl) (by kernel_rfl) (fun _ _ _ h => h) (Or.inl ⟨by rfl, ?_⟩) HS0.out ?_
          rotate_left
          · intro w' hs; go_simp; (try with_reducible rfl)
          refine till_free (i := 7) (v := ?_) rfl (by kernel_rfl) (by kernel_rfl) (by kernel_rfl) (by kernel_rfl) (fun _ _ _ h => h) (Or.inl ⟨by rfl, ?_⟩) HS0.out ?_
          rotate_left
          · intro w' hs; go_simp; (try with_reducible rfl)
          refine till_free (i := 8) (v := ?_) rfl (by kernel_rfl) (by kernel_rfl) (by kernel_rfl) (by kernel_rfl) (fun _ _ _ h => h) (Or.inl ⟨by rfl, ?_⟩) HS0.out ?_
          rotate_left
          · intro w' hs; go_simp; (try with_reducible rfl)
          refine till_take (i := 9) (v := ?_) rfl (by kernel_rfl) (by kernel_rfl) (by kernel_rfl) (by kernel_rfl) (fun _ _ _ h => h) (Or.inl ⟨by rfl, ?_⟩) HS0.out ?_
          rotate_left
          · intro w' hs; obtain ⟨s1, s2, s3⟩ := hs; go_simp; (try with_reducible rfl)
          refine till_free (i := 10) (v := ?_) rfl (by kernel_rfl) (by kernel_rfl) (by kernel_rfl) (by kernel_rfl) (fun _ _ _ h => h) (Or.inl ⟨by rfl, ?_⟩) HS0.out ?_
          rotate_left
          · intro w' hs; go_simp; (try with_reducible rfl)
          refine till_take (i := 11) (v := ?_) rfl (by kernel_rfl) (by kernel_rfl) (by kernel_rfl) (by kernel_rfl) (fun _ _ _ h => h) (Or.inl ⟨by rfl, ?_⟩) HS0.out ?_
          rotate_left
          · intro w' hs; obtain ⟨s1, s2, s3⟩ := hs; go_simp; (try with_reducible rfl)
          refine till_free (i := 12) (v := ?_) rfl (by kernel_rfl) (by kernel_rfl) (by kernel_rfl) (by kernel_rfl) (fun _ _ _ h => h) (Or.inl ⟨by rfl, ?_⟩) HS0.out ?_
          rotate_left
          · intro w' hs; go_simp; (try with_reducible rfl)
          refine till_free (i := 13) (v := ?_) rfl (by kernel_rfl) (by kernel_rfl) (by kernel_rfl) (by kernel_rfl) (fun _ _ _ h => h) (Or.inl ⟨by rfl, ?_⟩) HS0.out ?_
          rotate_left
          · intro w' hs; go_simp; (try with_reducible rfl)
          refine till_take (i := 14) (v := ?_) rfl (by kernel_rfl) (by kernel_rfl) (by kernel_rfl) (by kernel_rfl) (fun _ _ _ h => h) (Or.inl ⟨by rfl, ?_⟩) HS0.out ?_
          rotate_left
          · intro w' hs; obtain ⟨s1, s2, s3⟩ := hs; go_simp; (try with_reducible rfl)
          refine till_free (i := 15) (v := ?_) rfl (by kernel_rfl) (by kernel_rfl) (by kernel_rfl) (by kernel_rfl) (fun _ _ _ h => h) (Or.inl ⟨by rfl, ?_⟩) HS0.out ?_
          rotate_left
          · intro w' hs; go_simp; (try with_reducible rfl)
          refine till_one (i := 16) (by kernel_rfl) rfl fun K hK => ?_
          go_simp
          refine hK.out _ _ (fun _ _ => HS1.out) ?_
          clear hK K
          refine till_one (i := 17) (by kernel_rfl) rfl fun K hK => ?_
          refine step_append_lies _ rfl (.tmp 73) (.tmp 75) 36 rfl B 3 a0 (.int .i64 0) 1 8 Tryd.underlying36 A0 A1 A2 A3 rfl (by decide) _ ep.kids.length (encK ep.kids) rfl (World.ownsRow.alloc (w := w6.drew) HKR.out _) ⟨w6.heap.size, 0, none⟩ 1 1 [.int .i64 idk] rfl rfl (World.news_of_block (heap_alloc_new w6.drew _)) (by intro u hu; simp only [List.mem_cons, List.not_mem_nil, or_false] at hu; rcases hu with rfl; rfl) (by decide) HMK.out.1 HMK.out.2 (by have := HBB.out; simp; omega) _ rfl ?_
          intro g7 cap7 w7 hown7 hgrow7 hloc7 _
          have hg7 : (w6.alloc (.cells #[.int .i64 idk] 3)).grownBy w7 (Value.slice ka ep.kids.length kc).ownBlock := ⟨hgrow7.os, hgrow7.tape, hgrow7.output, hgrow7.size, hgrow7.block⟩
          have hl7 : (Value.slice ka ep.kids.length kc).ownBlock = some g7 ∨ g7 = (w6.alloc (.cells #[.int .i64 idk] 3)).heap.size := hloc7
          have HN7 := hid (DK.out g7 cap7 w7 _ hown7 hg7 hl7)
          obtain ⟨r1, r2⟩ := row_left hg7
          have hh1 : w7.heap[mb]? = w6.heap[mb]? := r1 mb hmb6 (fun q => (HKB.out mb q.symm).1 rfl)
          have hh2 : w7.heap[tb]? = w6.heap[tb]? := r1 tb htb6 (fun q => (HKB.out tb q.symm).2.1 rfl)
          have hh3 : w7.heap[sp.g]? = w6.heap[sp.g]? := r1 sp.g hsg6 (fun q => (HKB.out sp.g q.symm).2.2.1 rfl)
          have HV7 := hid (And.intro hh1 hh2)
          obtain ⟨j3, j4⟩ := KC.out w7 hh3
          have HS2 : Hid (w7.cell? ⟨tb, 0, none⟩ = some (.map (some mb)) ∧ (Instr.lookup 62 (.map (some mb)) (.int .i64 pi) false).run Tryd.prog w7 = .ok (.pointer (some ⟨sp.g, 0, none⟩)) w7 ∧ w7.cell? ⟨sp.g, 7, none⟩ = some (.slice ka ep.kids.length kc)) := hid ⟨(SB.out w7 hh1 hh2).1, (SB.out w7 hh1 hh2).2, j3⟩
          clear hown7 hgrow7 hloc7 hg7 hl7 r1 r2 hh1 hh2 hh3
          refine hK.out _ _ (fun _ _ => HS2.out) ?_
          clear hK K
          refine till_free (i := 18) (v := ?_) rfl (by kernel_rfl) (by kernel_rfl) (by kernel_rfl) (by kernel_rfl) (fun _ _ _ h => h) (Or.inl ⟨by rfl, ?_⟩) HS2.out ?_
          rotate_left
          · intro w' hs; go_simp; (try with_reducible rfl)
          refine till_free (i := 19) (v := ?_) rfl (by kernel_rfl) (by kernel_rfl) (by kernel_rfl) (by kernel_rfl) (fun _ _ _ h => h) (Or.inl ⟨by rfl, ?_⟩) HS2.out ?_
          rotate_left
          · intro w' hs; go_simp; (try with_reducible rfl)
          refine till_one (i := 20) (by kernel_rfl) rfl fun K hK => ?_
          go_simp
          refine hK.out _ _ (fun h => absurd rfl h) ?_
          clear hK K
          refine till_done (by kernel_rfl) ?_ _
          go_wp2_with fail
          go_meet
          exact ⟨rfl, _, HN7⟩
        case rest =>
          obtain ⟨rfl, Lk', HN7⟩ := hcut
          have x7 : wc.cell? ⟨ib, 0, none⟩ = some (.int .i64 (lv : Int)) := by rw [Lib.cell_of_heap HN7.out.item]; rfl
          clear HM6 SB KC DK HKR HKB HMK HBB HSN e1 e2 hA6 HLK HEP
          go_wp2_with (
            at_builtin
            refine wpList_append_lies _ rfl (.tmp 83) (.tmp 85) 36 rfl w.heap.size 3 a0 (.int .i64 0) 1 8 Tryd.underlying36 A0 A1 A2 A3 rfl (by decide) _ (lv + 1) ((encK (laidP par R k).ab).take (lv + 1)) rfl (World.ownsRow.alloc (own_take (by have := HN7.out.ab; unfold IntRow at this; rwa [HNAB.out] at this) (by rw [← HNAB.out]; exact q1')) _) ⟨wc.heap.size, 0, none⟩ 1 1 [.int .i64 idk] rfl rfl (World.news_of_block (heap_alloc_new wc _)) (by intro u hu; simp only [List.mem_cons, List.not_mem_nil, or_false] at hu; rcases hu with rfl; rfl) (by decide) HMA.out.1 HMA.out.2 (by have := HN7.out.keep.size; simp; omega) _ rfl ?_
            intro g8 cap8 w8 hown8 hgrow8 hloc8 _
            have HP8 := hid (DA.out _ _ _ g8 cap8 w8 _ HN7.out hown8 hgrow8 hloc8)
            clear hown8 hgrow8 hloc8)
          exact ⟨⟨k + 1, _, by go_num, by omega, HP8⟩, by simp [intOf]; omega⟩
    · have h1' : ¬ (k : Int) < (l.length : Int) := by omega
      obtain rfl : k = l.length := by omega
      have HQ := hid HP.out
      have HLD := hid (laid_done (g := g) (par := par) hd.out hp.out)
      clear HP
      go_wp2_with fail
      go_ret
      have hk : R.length = l.length := HRL.out
      have hD := HLD.out
      rw [hg.out, hk] at hD
      have hT : IntRow w.heap.size (.slice a9 (laidP par R l.length).top.length c9) (tops g) wr := by
        have := HQ.out.top
        unfold IntRow at this ⊢
        rw [← hD.2]
        exact this
      refine ⟨_, rfl, hT, Lk, by rw [HQ.out.made, hD.1], HQ.out.graph, HQ.out.new, fun q hq => ?_, HQ.out.keep⟩
      have := HQ.out.out9 q hq
      simp only [List.mem_cons, not_or] at this
      exact this
end N
end Go.Proofs.YtidccohjehegjaaDoor
