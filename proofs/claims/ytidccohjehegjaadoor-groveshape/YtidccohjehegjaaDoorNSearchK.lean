/- The walks of cmp.Compare at strings, of slices.BinarySearchFunc at attributes, and of grove's attr: where an attribute of a name stands, or would stand. -/
import Derived.Test.YtidccohjehegjaaDoorNTextK
import Derived.Shelf.Abstract
namespace Go.Proofs.YtidccohjehegjaaDoor
open Go.RowKit Go.Shelf
namespace T
/-- Where an attribute of a name stands, or would stand. -/
def placeT (l : List L.Attr) (nm : ByteArray) : Nat := (l.takeWhile fun b => L.ltB b.1 nm).length
def hasT (l : List L.Attr) (nm : ByteArray) : Bool := match l[placeT l nm]? with
  | some b => decide (b.1 = nm)
  | none => false
theorem place_le (l : List L.Attr) (nm : ByteArray) : placeT l nm ≤ l.length := (List.takeWhile_prefix _).length_le
theorem place_of {l : List L.Attr} {nm : ByteArray} {k : Nat} (hk : k ≤ l.length) (h1 : ∀ t (h : t < l.length), t < k → L.ltB l[t].1 nm = true) (h2 : ∀ t (h : t < l.length), k ≤ t → L.ltB l[t].1 nm = false) : placeT l nm = k := by
  unfold placeT
  induction l generalizing k with
  | nil => simp at hk; simp [hk]
  | cons a l ih =>
    cases k with
    | zero =>
      have := h2 0 (by simp) (Nat.le_refl _)
      simp only [List.getElem_cons_zero] at this
      rw [List.takeWhile_cons_of_neg (by rw [this]; simp)]
      rfl
    | succ k =>
      have := h1 0 (by simp) (by omega)
      simp only [List.getElem_cons_zero] at this
      rw [List.takeWhile_cons_of_pos (p := fun b : L.Attr => L.ltB b.1 nm) this, List.length_cons, ih (k := k) (by simpa using hk) (fun t h q => h1 (t + 1) (by simpa using h) (by omega)) (fun t h q => h2 (t + 1) (by simpa using h) (by omega))]
/-- Names that rise. -/
def Rises (l : List L.Attr) : Prop := ∀ i j (hi : i < l.length) (hj : j < l.length), i < j → L.ltB l[i].1 l[j].1 = true
theorem rises_of : ∀ (l : List L.Attr) (p : ByteArray), P.riseF p l = true → (∀ a ∈ l, L.ltB p a.1 = true) ∧ Rises l
  | [], _, _ => ⟨by simp, fun i j hi => by simp at hi⟩
  | a :: l, p, h => by
    rw [P.rise_cons, Bool.and_eq_true, Bool.and_eq_true] at h
    obtain ⟨⟨_, h2⟩, h3⟩ := h
    obtain ⟨h4, h5⟩ := rises_of l a.1 h3
    refine ⟨fun b hb => ?_, fun i j hi hj hij => ?_⟩
    · rcases List.mem_cons.1 hb with e | e
      · rw [e]; exact h2
      · exact L.lt_tr h2 (h4 b e)
    · cases j with
      | zero => omega
      | succ j =>
        cases i with
        | zero => simpa using h4 _ (List.getElem_mem (by simpa using hj))
        | succ i => simpa using h5 i j (by simpa using hi) (by simpa using hj) (by omega)
end T
namespace N
open T
section
variable {w : World}
/-- What Compare tells of two names. -/
def cmpB (a b : ByteArray) : Int := if L.ltB a b = true then -1 else if L.ltB b a = true then 1 else 0
theorem less_of (a b : ByteArray) : Op.bytesLess a.toList b.toList = L.ltB a b := by
  rw [ByteArray.toList_eq, ByteArray.toList_eq, L.less_lt]
  rfl
theorem cmp_lt {a b : ByteArray} (h : Op.bytesLess a.toList b.toList = true) : cmpB a b = -1 := by
  rw [less_of] at h
  rw [cmpB, if_pos h]
theorem cmp_gt {a b : ByteArray} (h : Op.bytesLess a.toList b.toList = false) (h2 : (!a.toList == b.toList) = true) : cmpB a b = 1 := by
  rw [less_of] at h
  rw [str_eq] at h2
  have h3 : a ≠ b := by simpa using h2
  have h4 : L.ltB b a = true := by
    cases q : L.ltB b a with
    | true => rfl
    | false => exact absurd (L.lt_tri a b h q) h3
  rw [cmpB, if_neg (by rw [h]; simp), if_pos h4]
theorem cmp_eq {a b : ByteArray} (h : Op.bytesLess a.toList b.toList = false) (h2 : (!a.toList == b.toList) = false) : cmpB a b = 0 := by
  rw [less_of] at h
  rw [str_eq] at h2
  obtain rfl : a = b := by simpa using h2
  rw [cmpB, if_neg (by rw [h]; simp), if_neg (by rw [h]; simp)]
theorem cmp_neg (a b : ByteArray) : cmpB a b < 0 ↔ L.ltB a b = true := by
  unfold cmpB
  split
  · simp_all
  · split <;> simp_all
theorem cmp_zero (a b : ByteArray) : cmpB a b = 0 ↔ a = b := by
  unfold cmpB
  split
  · rename_i h
    simp only [reduceCtorEq, false_iff]
    rintro rfl
    rw [L.lt_irr] at h
    cases h
  · rename_i h
    split
    · rename_i h2
      simp only [Int.reduceEq, false_iff]
      rintro rfl
      rw [L.lt_irr] at h2
      cases h2
    · rename_i h2
      simp only [true_iff]
      exact L.lt_tri a b (by simpa using h) (by simpa using h2)
theorem nan_any (a : ByteArray) : Calls Tryd.prog 78 #[.string a] w fun e w' => e = .returned (.bool false) ∧ w' = w := by
  go_enter Tryd.func78, Tryd.ntmps78
  go_wp2
  go_ret
  exact ⟨rfl, rfl⟩
set_option maxRecDepth 100000 in
theorem cmp_any (a b : ByteArray) : Calls Tryd.prog 64 #[.string a, .string b] w fun e w' => e = .returned (.int .i64 (cmpB a b)) ∧ w' = w := by
  have n1 := nan_any (w := w) a
  have n2 := nan_any (w := w) b
  obtain ⟨r, HR⟩ : ∃ r, Hid (cmpB a b = r) := ⟨_, hid rfl⟩
  rw [HR.out]
  go_enter Tryd.func64, Tryd.ntmps64
  go_wp2_with fail
  refine n1.mono ?_
  rintro e w' ⟨rfl, rfl⟩
  go_wp2_with fail
  refine n2.mono ?_
  rintro e w' ⟨rfl, rfl⟩
  go_wp2_with fail
  · rename_i h
    go_ret
    exact ⟨by rw [← HR.out, cmp_lt h]; rfl, rfl⟩
  · rename_i h1 _ _ h2
    go_ret
    exact ⟨by rw [← HR.out, cmp_gt h1 h2]; rfl, rfl⟩
  · rename_i h1 h2
    go_ret
    exact ⟨by rw [← HR.out, cmp_eq h1 h2]; rfl, rfl⟩
theorem attr1_any (a : L.Attr) (nm : ByteArray) : Calls Tryd.prog 63 #[.agg #[.string a.1, .string a.2], .string nm] w fun e w' => e = .returned (.int .i64 (cmpB a.1 nm)) ∧ Below w.heap.size w w' := by
  have HB := hid ((Below.refl w.heap.size w).alloc (Nat.le_refl _) (.cells #[.string a.1, .string a.2] 79))
  go_enter Tryd.func63, Tryd.ntmps63
  go_wp2_with fail
  refine (cmp_any a.1 nm).mono ?_
  rintro e w' ⟨rfl, rfl⟩
  go_wp2
  go_ret
  exact ⟨rfl, HB.out⟩
set_option maxRecDepth 100000 in
set_option maxHeartbeats 4000000 in
theorem search_any (V : Value) (l : List L.Attr) (nm : ByteArray) (I : Hid (AttrsIn V l w)) (hl : l.length ≤ 100000) (HS : Hid (Rises l)) (k : Nat) (HK : Hid (placeT l nm = k)) (b : Bool) (HB : Hid (hasT l nm = b)) :
    Calls Tryd.prog 62 #[V, .string nm, .func (.func 63) #[] #[]] w fun e w' => e = .returned (.tuple #[.int .i64 (k : Int), .bool b]) ∧ Below w.heap.size w w' := by
  obtain ⟨ao, cap, rfl, _, hc⟩ := I.out
  have HC := hid hc
  have eg : ∀ args w, (callFunc 63 args).run Tryd.prog w = .ok (.enter 63 args) w := enters_of Tryd.func63 (by kernel_rfl) rfl
  have hmono : ∀ i j (hi : i < l.length) (hj : j < l.length), i ≤ j → L.ltB l[j].1 nm = true → L.ltB l[i].1 nm = true := fun i j hi hj hij h => by
    by_cases q : i = j
    · subst q; exact h
    · exact L.lt_tr (HS.out i j hi hj (by omega)) h
  have HM := hid hmono
  clear hc hmono
  go_enter Tryd.func62, Tryd.ntmps62
  go_wp2
  go_loopw [9, 10] (fun v9 v10 X => ∃ lo hi : Nat, v9 = .int .i64 (lo : Int) ∧ v10 = .int .i64 (hi : Int) ∧ lo ≤ hi ∧ hi ≤ l.length ∧ Hid (Below w.heap.size w X) ∧ Hid ((∀ t (h : t < l.length), t < lo → L.ltB l[t].1 nm = true) ∧ ∀ t (h : t < l.length), hi ≤ t → L.ltB l[t].1 nm = false)) (fun v9 v10 _ => (intOf v10).toNat - (intOf v9).toNat)
  case atStart => exact ⟨0, l.length, rfl, rfl, by omega, by omega, hid (Below.refl _ _), hid ⟨fun t h q => by omega, fun t h q => by omega⟩⟩
  case round =>
    obtain ⟨lo, hi, rfl, rfl, h1, h2, HG, HP⟩ := hrel
    by_cases hlt : lo < hi
    · have hlt' : (lo : Int) < (hi : Int) := by omega
      obtain ⟨m, hm⟩ : ∃ m, (lo + hi) / 2 = m := ⟨_, rfl⟩
      have hml : m < l.length := by omega
      obtain ⟨g, o, rfl, hg, hcc⟩ := HC.out (by rintro rfl; simp at hml)
      obtain ⟨q0, q1⟩ := hcc m hml
      have d0 := (HG.out.cell (p := ⟨g, o + m * 2, none⟩) hg).trans q0
      have d1 := (HG.out.cell (p := ⟨g, o + m * 2 + 1, none⟩) hg).trans q1
      have hmi : ((lo : Int) + (hi : Int)) / 2 = (m : Int) := by omega
      have CA := attr1_any (w := wr) l[m] nm
      clear hcc q0 q1
      have HLM : Hid ((lo ≤ m ∧ m < hi) ∧ m + 1 ≤ hi) := hid (by omega)
      obtain ⟨c, HCC⟩ : ∃ c, Hid (cmpB l[m].1 nm = c) := ⟨_, hid rfl⟩
      have HN : Hid (c < 0 ↔ L.ltB l[m].1 nm = true) := hid (by rw [← HCC.out]; exact cmp_neg _ _)
      rw [HCC.out] at CA
      generalize l[m] = y at d0 d1 CA HCC
      by_cases hcn : c < 0
      · go_wp2_with (go_at_fn 63; refine CA.mono ?_; rintro e w' ⟨rfl, hb⟩)
        have HG2 := hid (HG.out.trans (hb.mono HG.out.size))
        clear hb
        go_roundw
        case rel =>
          refine ⟨m + 1, hi, by go_num, rfl, HLM.out.2, h2, HG2, hid ⟨fun t h q => ?_, HP.out.2⟩⟩
          exact HM.out t m h hml (by omega) (HN.out.1 hcn)
        case measure => (have := HLM.out; simp [intOf]; omega)
      · go_wp2_with (go_at_fn 63; refine CA.mono ?_; rintro e w' ⟨rfl, hb⟩)
        have HG2 := hid (HG.out.trans (hb.mono HG.out.size))
        clear hb
        go_roundw
        case rel =>
          refine ⟨lo, m, rfl, by go_num, HLM.out.1.1, by omega, HG2, hid ⟨HP.out.1, fun t h q => ?_⟩⟩
          cases z : L.ltB l[t].1 nm with
          | false => rfl
          | true => exact absurd (HN.out.2 (HM.out m t hml h q z)) (Int.not_lt.2 hcn)
        case measure => (have := HLM.out; simp [intOf]; omega)
    · obtain rfl : lo = hi := by omega
      have hlt' : ¬ (lo : Int) < (lo : Int) := by omega
      have hk := place_of h2 HP.out.1 HP.out.2
      rw [HK.out] at hk
      subst hk
      have hb := HB.out
      unfold hasT at hb
      rw [HK.out] at hb
      by_cases hkl : k < l.length
      · have hkl' : (k : Int) < (l.length : Int) := by omega
        rw [List.getElem?_eq_getElem hkl] at hb
        simp only at hb
        obtain ⟨g, o, rfl, hg, hcc⟩ := HC.out (by rintro rfl; simp at hkl)
        obtain ⟨q0, q1⟩ := hcc k hkl
        have d0 := (HG.out.cell (p := ⟨g, o + k * 2, none⟩) hg).trans q0
        have d1 := (HG.out.cell (p := ⟨g, o + k * 2 + 1, none⟩) hg).trans q1
        have CA := attr1_any (w := wr) l[k] nm
        obtain ⟨c, HCC⟩ : ∃ c, Hid (cmpB l[k].1 nm = c) := ⟨_, hid rfl⟩
        have HZ : Hid (c = 0 ↔ l[k].1 = nm) := hid (by rw [← HCC.out]; exact cmp_zero _ _)
        have HBB := hid hb
        rw [HCC.out] at CA
        clear hcc q0 q1 hb HB HK
        by_cases hc0 : c = 0
        · have hb1 : b = true := by rw [← HBB.out]; exact decide_eq_true (HZ.out.1 hc0)
          subst hb1
          subst hc0
          generalize l[k] = y at d0 d1 CA HCC HZ HBB
          go_wp2_with (go_at_fn 63; refine CA.mono ?_; rintro e w' ⟨rfl, hb⟩)
          have HG2 := hid (HG.out.trans (hb.mono HG.out.size))
          clear hb
          go_ret2
          exact ⟨rfl, HG2.out⟩
        · have hb1 : b = false := by rw [← HBB.out]; exact decide_eq_false (fun q => hc0 (HZ.out.2 q))
          subst hb1
          have hc0' : (c == 0) = false := by simpa using hc0
          generalize l[k] = y at d0 d1 CA HCC HZ HBB
          go_wp2_with (go_at_fn 63; refine CA.mono ?_; rintro e w' ⟨rfl, hb⟩)
          have HG2 := hid (HG.out.trans (hb.mono HG.out.size))
          clear hb
          go_ret2
          exact ⟨rfl, HG2.out⟩
      · have hkl' : ¬ (k : Int) < (l.length : Int) := by omega
        rw [List.getElem?_eq_none (by omega)] at hb
        simp only at hb
        subst hb
        clear HB HK
        go_wp2
        go_ret2
        exact ⟨rfl, HG.out⟩
set_option maxRecDepth 100000 in
theorem attr_any {B : Nat} {e : Nd} {s : Slot} (h : Hid (NodeIn B e s w)) (nm : ByteArray) (hl : e.x.attrs.length ≤ 100000) (HS : Hid (Rises e.x.attrs)) :
    Calls Tryd.prog 42 #[.pointer (some ⟨s.g, 0, none⟩), .string nm] w fun r w' => r = .returned (.tuple #[.int .i64 (placeT e.x.attrs nm : Int), .bool (hasT e.x.attrs nm)]) ∧ Below w.heap.size w w' := by
  obtain ⟨d0, d1, d2, d3, d4, d5, d6, d7⟩ := h.out.cells
  obtain ⟨k, HK⟩ : ∃ k, Hid (placeT e.x.attrs nm = k) := ⟨_, hid rfl⟩
  obtain ⟨b, HB⟩ : ∃ b, Hid (hasT e.x.attrs nm = b) := ⟨_, hid rfl⟩
  rw [HK.out, HB.out]
  have SA := hid (search_any s.av e.x.attrs nm (hid (attrs_in h.out.attrs)) hl HS k HK b HB)
  obtain ⟨aa, ac, hav⟩ := slice_of h.out.attrs
  rw [hav] at d6
  rw [hav] at SA
  clear d0 d1 d2 d3 d4 d5 d7 hav
  go_enter Tryd.func42, Tryd.ntmps42
  go_wp2_with fail
  refine SA.out.mono ?_
  rintro r w1 ⟨rfl, hb⟩
  have HB1 := hid hb
  clear hb
  go_wp2
  go_ret2
  exact ⟨rfl, HB1.out⟩
end
end N
end Go.Proofs.YtidccohjehegjaaDoor
