/- The walks of scribe's alike, of slices.EqualFunc at items, and of scribe's Same. -/
import Derived.Test.YtmnegpdegfianaaDoorPSame
import Derived.Test.YtmnegpdegfianaaDoorS3
namespace Go.Proofs.YtmnegpdegfianaaDoor
open Go.RowKit Go.Shelf
set_option maxRecDepth 100000 in
set_option maxHeartbeats 2000000 in
theorem equalA_any (v v' : Value) (l l' : List L.Attr) (w : World) (h1 : AttrsIn v l w) (h2 : AttrsIn v' l' w) :
    Calls Tryd.prog 67 #[v, v'] w fun e w' => e = .returned (.bool (decide (l = l'))) ∧ ∃ m, w' = w.drewN m := by
  obtain ⟨ao, cp, rfl, hl, k1⟩ := h1
  obtain ⟨ao', cp', rfl, hl', k2⟩ := h2
  have H1 := hid k1
  have H2 := hid k2
  clear k1 k2
  obtain ⟨r, HR⟩ : ∃ r, Hid (decide (l = l') = r) := ⟨_, hid rfl⟩
  rw [HR.out]
  by_cases hn : l.length = l'.length
  · have HN := hid hn
    rw [← hn]
    clear hn hl'
    go_enter Tryd.func67, Tryd.ntmps67
    go_wp2
    go_loopw [13] (fun vk W => ∃ (k : Nat), vk = .int .i64 (k : Int) ∧ k ≤ l.length ∧ Hid (∀ j (h : j < l.length) (h' : j < l'.length), j < k → l[j] = l'[j]) ∧ Hid (∃ m, W = w.drewN m)) (fun vk _ => l.length - (intOf vk).toNat)
    case atStart => exact ⟨0, rfl, by omega, hid (fun j _ _ h => by omega), hid ⟨0, rfl⟩⟩
    case round =>
      obtain ⟨k, rfl, hk, HS, HM⟩ := hrel
      by_cases h : k < l.length
      · have h2 : k < l'.length := by rw [← HN.out]; exact h
        obtain ⟨g, o, rfl, _, c⟩ := H1.out (by rintro rfl; simp at h)
        obtain ⟨g', o', rfl, _, d⟩ := H2.out (by rintro rfl; simp at h2)
        have c0 : wr.cell? ⟨g, o + k * 2, none⟩ = some (.string l[k].1) := by obtain ⟨m, hm⟩ := HM.out; rw [hm]; exact (c k h).1
        have c1 : wr.cell? ⟨g, o + k * 2 + 1, none⟩ = some (.string l[k].2) := by obtain ⟨m, hm⟩ := HM.out; rw [hm]; exact (c k h).2
        have d0 : wr.cell? ⟨g', o' + k * 2, none⟩ = some (.string l'[k].1) := by obtain ⟨m, hm⟩ := HM.out; rw [hm]; exact (d k h2).1
        have d1 : wr.cell? ⟨g', o' + k * 2 + 1, none⟩ = some (.string l'[k].2) := by obtain ⟨m, hm⟩ := HM.out; rw [hm]; exact (d k h2).2
        have h' : (k : Int) < (l.length : Int) := by omega
        have HF : Hid (l[k] ≠ l'[k] → r = false) := hid (fun q => by
          rw [← HR.out, decide_eq_false_iff_not]
          rintro rfl
          exact q rfl)
        have HSN : Hid (l[k] = l'[k] → ∀ j (h : j < l.length) (h' : j < l'.length), j < k + 1 → l[j] = l'[j]) := hid (fun q j a b e => by
          rcases Nat.lt_or_ge j k with t | t
          · exact HS.out j a b t
          · obtain rfl : j = k := by omega
            exact q)
        have HP : Hid (l[k].1 = l'[k].1 → l[k].2 = l'[k].2 → l[k] = l'[k]) := hid (fun a b => Prod.ext a b)
        have HQ : Hid (l[k] = l'[k] → l[k].1 = l'[k].1 ∧ l[k].2 = l'[k].2) := hid (fun q => by rw [q]; exact ⟨rfl, rfl⟩)
        clear c d HS
        generalize l[k] = p at *
        generalize l'[k] = p' at *
        obtain ⟨x, y⟩ := p
        obtain ⟨x', y'⟩ := p'
        dsimp only at *
        by_cases e1 : x = x'
        · subst e1
          by_cases e2 : y = y'
          · subst e2
            clear HF HP HQ
            go_wp2_with fail
            go_quiet (fail)
            go_wp2
            go_roundw
            case rel => exact ⟨k + 1, by go_num, by omega, hid (HSN.out (by trivial)), hid (more_drewS HM.out _)⟩
            case measure => (simp [intOf]; try omega)
          · have e2' : (y.toList == y'.toList) = false := by rw [str_eq]; exact decide_eq_false e2
            obtain rfl : r = false := HF.out (fun q => e2 (HQ.out q).2)
            clear HF HP HQ HSN e2
            go_wp2_with fail
            go_quiet (fail)
            go_wp2
            go_ret
            exact ⟨rfl, more_drewS HM.out _⟩
        · have e1' : (x.toList == x'.toList) = false := by rw [str_eq]; exact decide_eq_false e1
          obtain rfl : r = false := HF.out (fun q => e1 (HQ.out q).1)
          clear HF HP HQ HSN e1
          go_wp2_with fail
          go_quiet (fail)
          go_wp2
          go_ret
          exact ⟨rfl, more_drewS HM.out _⟩
      · have h' : ¬ (k : Int) < (l.length : Int) := by omega
        obtain rfl : r = true := by
          rw [← HR.out, decide_eq_true_iff]
          exact List.ext_getElem HN.out (fun j a b => HS.out j a b (by omega))
        go_wp2
        go_ret
        exact ⟨rfl, HM.out⟩
  · obtain rfl : r = false := by rw [← HR.out, decide_eq_false_iff_not]; rintro rfl; exact hn rfl
    have hn' : ((l.length : Int) == (l'.length : Int)) = false := beq_eq_false_iff_ne.2 (by omega)
    have hn2 : ((l.length : Int) != (l'.length : Int)) = true := by simp; omega
    clear hn
    go_enter Tryd.func67, Tryd.ntmps67
    go_wp2
    go_ret
    exact ⟨rfl, 0, rfl⟩
set_option maxRecDepth 100000 in
set_option maxHeartbeats 2000000 in
theorem sameA_gen (v v' : Value) (l l' : List L.Attr) (w : World) (h1 : AttrsIn v l w) (h2 : AttrsIn v' l' w) :
    Calls Tryd.prog 42 #[v, v'] w fun e w' => e = .returned (.bool (decide (l = l'))) ∧ ∃ m, w' = w.drewN m := by
  obtain ⟨ao, cp, rfl, hl, k1⟩ := h1
  obtain ⟨ao', cp', rfl, hl', k2⟩ := h2
  have H1 := hid k1
  have H2 := hid k2
  clear k1 k2
  obtain ⟨r, HR⟩ : ∃ r, Hid (decide (l = l') = r) := ⟨_, hid rfl⟩
  rw [HR.out]
  by_cases hn : l.length = l'.length
  · have HN := hid hn
    rw [← hn]
    clear hn hl'
    go_enter Tryd.func42, Tryd.ntmps42
    go_wp2
    go_loopw [5] (fun vk W => ∃ (k : Nat), vk = .int .i64 (k : Int) ∧ k ≤ l.length ∧ Hid (∀ j (h : j < l.length) (h' : j < l'.length), j < k → l[j] = l'[j]) ∧ Hid (∃ m, W = w.drewN m)) (fun vk _ => l.length - (intOf vk).toNat)
    case atStart => exact ⟨0, rfl, by omega, hid (fun j _ _ h => by omega), hid ⟨0, rfl⟩⟩
    case round =>
      obtain ⟨k, rfl, hk, HS, HM⟩ := hrel
      by_cases h : k < l.length
      · have h2 : k < l'.length := by rw [← HN.out]; exact h
        obtain ⟨g, o, rfl, _, c⟩ := H1.out (by rintro rfl; simp at h)
        obtain ⟨g', o', rfl, _, d⟩ := H2.out (by rintro rfl; simp at h2)
        have c0 : wr.cell? ⟨g, o + k * 2, none⟩ = some (.string l[k].1) := by obtain ⟨m, hm⟩ := HM.out; rw [hm]; exact (c k h).1
        have c1 : wr.cell? ⟨g, o + k * 2 + 1, none⟩ = some (.string l[k].2) := by obtain ⟨m, hm⟩ := HM.out; rw [hm]; exact (c k h).2
        have d0 : wr.cell? ⟨g', o' + k * 2, none⟩ = some (.string l'[k].1) := by obtain ⟨m, hm⟩ := HM.out; rw [hm]; exact (d k h2).1
        have d1 : wr.cell? ⟨g', o' + k * 2 + 1, none⟩ = some (.string l'[k].2) := by obtain ⟨m, hm⟩ := HM.out; rw [hm]; exact (d k h2).2
        have h' : (k : Int) < (l.length : Int) := by omega
        have HF : Hid (l[k] ≠ l'[k] → r = false) := hid (fun q => by
          rw [← HR.out, decide_eq_false_iff_not]
          rintro rfl
          exact q rfl)
        have HSN : Hid (l[k] = l'[k] → ∀ j (h : j < l.length) (h' : j < l'.length), j < k + 1 → l[j] = l'[j]) := hid (fun q j a b e => by
          rcases Nat.lt_or_ge j k with t | t
          · exact HS.out j a b t
          · obtain rfl : j = k := by omega
            exact q)
        have HP : Hid (l[k].1 = l'[k].1 → l[k].2 = l'[k].2 → l[k] = l'[k]) := hid (fun a b => Prod.ext a b)
        have HQ : Hid (l[k] = l'[k] → l[k].1 = l'[k].1 ∧ l[k].2 = l'[k].2) := hid (fun q => by rw [q]; exact ⟨rfl, rfl⟩)
        clear c d HS
        generalize l[k] = p at *
        generalize l'[k] = p' at *
        obtain ⟨x, y⟩ := p
        obtain ⟨x', y'⟩ := p'
        dsimp only at *
        by_cases e1 : x = x'
        · subst e1
          by_cases e2 : y = y'
          · subst e2
            clear HF HP HQ
            go_wp2_with fail
            go_quiet (fail)
            go_wp2
            go_roundw
            case rel => exact ⟨k + 1, by go_num, by omega, hid (HSN.out (by trivial)), hid (more_drewS HM.out _)⟩
            case measure => (simp [intOf]; try omega)
          · have e2' : (y.toList == y'.toList) = false := by rw [str_eq]; exact decide_eq_false e2
            obtain rfl : r = false := HF.out (fun q => e2 (HQ.out q).2)
            clear HF HP HQ HSN e2
            go_wp2_with fail
            go_quiet (fail)
            go_wp2
            go_ret
            exact ⟨rfl, more_drewS HM.out _⟩
        · have e1' : (x.toList == x'.toList) = false := by rw [str_eq]; exact decide_eq_false e1
          obtain rfl : r = false := HF.out (fun q => e1 (HQ.out q).1)
          clear HF HP HQ HSN e1
          go_wp2_with fail
          go_quiet (fail)
          go_wp2
          go_ret
          exact ⟨rfl, more_drewS HM.out _⟩
      · have h' : ¬ (k : Int) < (l.length : Int) := by omega
        obtain rfl : r = true := by
          rw [← HR.out, decide_eq_true_iff]
          exact List.ext_getElem HN.out (fun j a b => HS.out j a b (by omega))
        go_wp2
        go_ret
        exact ⟨rfl, HM.out⟩
  · obtain rfl : r = false := by rw [← HR.out, decide_eq_false_iff_not]; rintro rfl; exact hn rfl
    have hn' : ((l.length : Int) == (l'.length : Int)) = false := beq_eq_false_iff_ne.2 (by omega)
    have hn2 : ((l.length : Int) != (l'.length : Int)) = true := by simp; omega
    clear hn
    go_enter Tryd.func42, Tryd.ntmps42
    go_wp2
    go_ret
    exact ⟨rfl, 0, rfl⟩
end Go.Proofs.YtmnegpdegfianaaDoor
namespace Go.Proofs.YtmnegpdegfianaaDoor
open Go.RowKit Go.Shelf
namespace S
open P L G E
def sameB (x y : Itm) : Bool := decide (x.level = y.level ∧ x.kind = y.kind ∧ x.name = y.name ∧ x.text = y.text ∧ x.attrs = y.attrs)
theorem sameB_iff (x y : Itm) : sameB x y = true ↔ x = y := by
  obtain ⟨a, b, c, d, e⟩ := x
  obtain ⟨a', b', c', d', e'⟩ := y
  simp [sameB]
/-- Are two rows the same? -/
def sameL : List Itm → List Itm → Bool
  | [], [] => true
  | x :: l, y :: m => sameB x y && sameL l m
  | _, _ => false
theorem sameL_iff : ∀ (l m : List Itm), sameL l m = true ↔ l = m
  | [], [] => by simp [sameL]
  | [], y :: m => by simp [sameL]
  | x :: l, [] => by simp [sameL]
  | x :: l, y :: m => by simp [sameL, sameB_iff, sameL_iff l m]
theorem sameL_self (l : List Itm) : sameL l l = true := (sameL_iff l l).2 rfl
theorem sameL_comm (l m : List Itm) : sameL l m = sameL m l := by
  rw [Bool.eq_iff_iff, sameL_iff, sameL_iff]
  exact ⟨fun h => h.symm, fun h => h.symm⟩
end S
set_option maxRecDepth 100000 in
set_option maxHeartbeats 2000000 in
theorem alike_any (x y : P.Itm) (v v' : Value) (w : World) (r : Bool) (HR : Hid (S.sameB x y = r)) (A1 : Hid (AttrsIn v x.attrs w)) (A2 : Hid (AttrsIn v' y.attrs w)) :
    Calls Tryd.prog 44 #[itmV x v, itmV y v'] w fun e w' => e = .returned (.bool r) ∧ Below w.heap.size w w' := by
  obtain ⟨lv, kd, nm, tx, ats⟩ := x
  obtain ⟨lv', kd', nm', tx', ats'⟩ := y
  dsimp only at *
  obtain ⟨aa, ca, rfl, _, _⟩ := A1.out
  obtain ⟨aa', ca', rfl, _, _⟩ := A2.out
  unfold itmV
  dsimp only
  have hB := below_new w (.cells #[.int .i64 lv, .int .i64 kd, .string nm, .string tx, .slice aa ats.length ca] 32)
  have hB2 := below_new (w.alloc (.cells #[.int .i64 lv, .int .i64 kd, .string nm, .string tx, .slice aa ats.length ca] 32)) (.cells #[.int .i64 lv', .int .i64 kd', .string nm', .string tx', .slice aa' ats'.length ca'] 32)
  have HB := hid (hB.trans (hB2.mono hB.size))
  clear hB hB2
  have HRR : Hid (decide (lv = lv' ∧ kd = kd' ∧ nm = nm' ∧ tx = tx' ∧ ats = ats') = r) := HR
  by_cases h1 : lv = lv'
  · subst h1
    by_cases h2 : kd = kd'
    · subst h2
      by_cases h3 : nm = nm'
      · subst h3
        by_cases h4 : tx = tx'
        · subst h4
          have EQ := hid (equalA_any _ _ ats ats' _ (A1.out.below HB.out) (A2.out.below HB.out))
          obtain ⟨q, HQ⟩ : ∃ q, Hid (decide (ats = ats') = q) := ⟨_, hid rfl⟩
          rw [HQ.out] at EQ
          obtain rfl : r = q := by rw [← HRR.out, ← HQ.out]; simp
          clear HR HRR HQ A1 A2
          go_enter Tryd.func44, Tryd.ntmps44
          go_wp2_with fail
          refine EQ.out.mono ?_
          rintro e w1 ⟨rfl, m, rfl⟩
          go_wp2
          go_ret
          exact ⟨rfl, below_drewN HB.out m⟩
        · have h4' : (tx.toList == tx'.toList) = false := by rw [str_eq]; exact decide_eq_false h4
          obtain rfl : r = false := by rw [← HRR.out]; simp [h4]
          clear HR HRR A1 A2 h4
          go_enter Tryd.func44, Tryd.ntmps44
          go_wp2
          go_ret
          exact ⟨rfl, HB.out⟩
      · have h3' : (nm.toList == nm'.toList) = false := by rw [str_eq]; exact decide_eq_false h3
        obtain rfl : r = false := by rw [← HRR.out]; simp [h3]
        clear HR HRR A1 A2 h3
        go_enter Tryd.func44, Tryd.ntmps44
        go_wp2
        go_ret
        exact ⟨rfl, HB.out⟩
    · have h2' : (kd == kd') = false := beq_eq_false_iff_ne.2 h2
      obtain rfl : r = false := by rw [← HRR.out]; simp [h2]
      clear HR HRR A1 A2 h2
      go_enter Tryd.func44, Tryd.ntmps44
      go_wp2
      go_ret
      exact ⟨rfl, HB.out⟩
  · have h1' : (lv == lv') = false := beq_eq_false_iff_ne.2 h1
    obtain rfl : r = false := by rw [← HRR.out]; simp [h1]
    clear HR HRR A1 A2 h1
    go_enter Tryd.func44, Tryd.ntmps44
    go_wp2
    go_ret
    exact ⟨rfl, HB.out⟩
namespace S
open P
theorem sameL_len {l m : List Itm} (h : l.length ≠ m.length) : sameL l m = false := by
  cases q : sameL l m with
  | false => rfl
  | true => rw [sameL_iff] at q; exact absurd (congrArg List.length q) h
theorem sameL_at {l m : List Itm} {k : Nat} (h : k < l.length) (h' : k < m.length) (hs : sameB l[k] m[k] = false) : sameL l m = false := by
  cases q : sameL l m with
  | false => rfl
  | true =>
    rw [sameL_iff] at q
    subst q
    rw [(sameB_iff _ _).2 rfl] at hs
    cases hs
theorem sameL_all {l m : List Itm} (hn : l.length = m.length) (h : ∀ k (h : k < l.length) (h' : k < m.length), sameB l[k] m[k] = true) : sameL l m = true := by
  rw [sameL_iff]
  exact List.ext_getElem hn (fun k a b => (sameB_iff _ _).1 (h k a b))
end S
set_option maxRecDepth 100000 in
set_option maxHeartbeats 2000000 in
theorem equalF_any (V V' : Value) (l l' : List IV) (w : World) (r : Bool) (HR : Hid (S.sameL (l.map (·.1)) (l'.map (·.1)) = r)) (I : Hid (ItemsIn V l w)) (I' : Hid (ItemsIn V' l' w)) :
    Calls Tryd.prog 43 #[V, V', .func (.func 44) #[] #[]] w fun e w' => e = .returned (.bool r) ∧ Below w.heap.size w w' := by
  obtain ⟨ao, cp, rfl, hl, k1⟩ := I.out.1
  obtain ⟨ao', cp', rfl, hl', k2⟩ := I'.out.1
  have H1 := hid k1
  have H2 := hid k2
  clear k1 k2
  by_cases hn : l.length = l'.length
  · have HN := hid hn
    rw [← hn]
    clear hn hl'
    go_enter Tryd.func43, Tryd.ntmps43
    go_wp2
    go_loopw [17] (fun vk W => ∃ (k : Nat), vk = .int .i64 (k : Int) ∧ k ≤ l.length ∧ Hid (∀ j (h : j < l.length) (h' : j < l'.length), j < k → S.sameB l[j].1 l'[j].1 = true) ∧ Hid (Below w.heap.size w W)) (fun vk _ => l.length - (intOf vk).toNat)
    case atStart => exact ⟨0, rfl, by omega, hid (fun j _ _ h => by omega), hid (Below.refl _ _)⟩
    case round =>
      obtain ⟨k, rfl, hk, HS, HB⟩ := hrel
      by_cases h : k < l.length
      · have h2 : k < l'.length := by rw [← HN.out]; exact h
        have h' : (k : Int) < (l.length : Int) := by omega
        obtain ⟨g, o, rfl, hg, c⟩ := H1.out (by rintro rfl; simp at h)
        obtain ⟨g', o', rfl, hg', d⟩ := H2.out (by rintro rfl; simp at h2)
        obtain ⟨x0, x1, x2, x3, x4⟩ := c k h
        obtain ⟨y0, y1, y2, y3, y4⟩ := d k h2
        have a1 := I.out.2 _ (List.getElem_mem h)
        have a2 := I'.out.2 _ (List.getElem_mem h2)
        obtain ⟨q, HQ⟩ : ∃ q, Hid (S.sameB l[k].1 l'[k].1 = q) := ⟨_, hid rfl⟩
        have HAL : Hid (∀ W, Below w.heap.size w W → Calls Tryd.prog 44 #[itmV l[k].1 l[k].2, itmV l'[k].1 l'[k].2] W fun e w' => e = .returned (.bool q) ∧ Below W.heap.size W w') := hid (fun W hW => alike_any _ _ _ _ W q HQ (hid (a1.below hW)) (hid (a2.below hW)))
        have HF : Hid (q = false → r = false) := hid (fun e => by
          rw [← HR.out]
          exact S.sameL_at (k := k) (by simpa using h) (by simpa using h2) (by rw [← e, ← HQ.out]; simp))
        have HSN : Hid (q = true → ∀ j (h : j < l.length) (h' : j < l'.length), j < k + 1 → S.sameB l[j].1 l'[j].1 = true) := hid (fun e j a b t => by
          rcases Nat.lt_or_ge j k with u | u
          · exact HS.out j a b u
          · obtain rfl : j = k := by omega
            rw [HQ.out]; exact e)
        obtain ⟨aa, ca, ea, -, -⟩ := a1
        obtain ⟨ab, cb, eb, -, -⟩ := a2
        unfold itmV at HAL
        rw [ea, eb] at HAL
        rw [ea] at x4
        rw [eb] at y4
        have c0 := (HB.out.cell (p := ⟨g, o + k * 5, none⟩) hg).trans x0
        have c1 := (HB.out.cell (p := ⟨g, o + k * 5 + 1, none⟩) hg).trans x1
        have c2 := (HB.out.cell (p := ⟨g, o + k * 5 + 2, none⟩) hg).trans x2
        have c3 := (HB.out.cell (p := ⟨g, o + k * 5 + 3, none⟩) hg).trans x3
        have c4 := (HB.out.cell (p := ⟨g, o + k * 5 + 4, none⟩) hg).trans x4
        have d0 := (HB.out.cell (p := ⟨g', o' + k * 5, none⟩) hg').trans y0
        have d1 := (HB.out.cell (p := ⟨g', o' + k * 5 + 1, none⟩) hg').trans y1
        have d2 := (HB.out.cell (p := ⟨g', o' + k * 5 + 2, none⟩) hg').trans y2
        have d3 := (HB.out.cell (p := ⟨g', o' + k * 5 + 3, none⟩) hg').trans y3
        have d4 := (HB.out.cell (p := ⟨g', o' + k * 5 + 4, none⟩) hg').trans y4
        have hgr : g' < wr.heap.size := Nat.lt_of_lt_of_le hg' HB.out.size
        clear c d x0 x1 x2 x3 x4 y0 y1 y2 y3 y4 ea eb hg hg' I I' H1 H2 HS HQ
        generalize l[k].1.attrs.length = na at *
        generalize l[k].1.level = lv at *
        generalize l[k].1.kind = kd at *
        generalize l[k].1.name = nm at *
        generalize l[k].1.text = tx at *
        generalize l'[k].1.attrs.length = na' at *
        generalize l'[k].1.level = lv' at *
        generalize l'[k].1.kind = kd' at *
        generalize l'[k].1.name = nm' at *
        generalize l'[k].1.text = tx' at *
        go_wp2_with fail
        have hA := below_new wr (.cells #[.int .i64 lv, .int .i64 kd, .string nm, .string tx, .slice aa na ca] 32)
        have hA2 := below_new (wr.alloc (.cells #[.int .i64 lv, .int .i64 kd, .string nm, .string tx, .slice aa na ca] 32)) (.cells #[.int .i64 lv', .int .i64 kd', .string nm', .string tx', .slice ab na' cb] 32)
        have hA3 := HB.out.trans ((hA.trans (hA2.mono hA.size)).mono HB.out.size)
        refine (HAL.out _ hA3).mono ?_
        rintro e w1 ⟨rfl, hb1⟩
        have HB1 := hid (hA3.trans (hb1.mono hA3.size))
        clear hb1 hA hA2 hA3 HAL c0 c1 c2 c3 c4 d0 d1 d2 d3 d4
        cases q with
        | false =>
          obtain rfl := HF.out rfl
          go_wp2
          go_ret
          exact ⟨rfl, HB1.out⟩
        | true =>
          have HS2 := hid (HSN.out rfl)
          clear HSN HF
          go_wp2
          go_roundw
          case rel => exact ⟨k + 1, by go_num, by omega, HS2, HB1⟩
          case measure => (simp [intOf]; try omega)
      · have h' : ¬ (k : Int) < (l.length : Int) := by omega
        obtain rfl : r = true := by
          rw [← HR.out]
          refine S.sameL_all (by simpa using HN.out) (fun j a b => ?_)
          have a' : j < l.length := by simpa using a
          have := HS.out j a' (by simpa using b) (by omega)
          simpa using this
        go_wp2
        go_ret
        exact ⟨rfl, HB.out⟩
  · obtain rfl : r = false := by rw [← HR.out]; exact S.sameL_len (by simpa using hn)
    have hn' : ((l.length : Int) == (l'.length : Int)) = false := beq_eq_false_iff_ne.2 (by omega)
    have hn2 : ((l.length : Int) != (l'.length : Int)) = true := by simp; omega
    clear hn
    go_enter Tryd.func43, Tryd.ntmps43
    go_wp2
    go_ret
    exact ⟨rfl, Below.refl _ _⟩
set_option maxHeartbeats 1000000 in
theorem same_any' (V V' : Value) (l l' : List IV) (w : World) (r : Bool) (HR : Hid (S.sameL (l.map (·.1)) (l'.map (·.1)) = r)) (I : Hid (ItemsIn V l w)) (I' : Hid (ItemsIn V' l' w)) :
    Calls Tryd.prog 15 #[V, V'] w fun e w' => e = .returned (.bool r) ∧ Below w.heap.size w w' := by
  have EQ := hid (equalF_any V V' l l' w r HR I I')
  obtain ⟨ao, cp, rfl, _, _⟩ := I.out.1
  obtain ⟨ao', cp', rfl, _, _⟩ := I'.out.1
  clear I I' HR
  go_enter Tryd.func15, Tryd.ntmps15
  go_wp2_with fail
  refine EQ.out.mono ?_
  rintro e w1 ⟨rfl, hb⟩
  go_wp2
  go_ret
  exact ⟨rfl, hb⟩
end Go.Proofs.YtmnegpdegfianaaDoor
