/- Plain mathematics for scribe's Normal: a row made normal, piece by piece: how many items are one with the first, and what they are together. No program is spoken of here. -/
import Derived.Test.YtmgemdhpjibdiaaDoorPWrap
namespace Go.Proofs.YtmgemdhpjibdiaaDoor
namespace S
open P L G E
/-- Bytes as a text. -/
def bA (l : List UInt8) : ByteArray := ⟨l.toArray⟩
theorem bA_list (l : List UInt8) : (bA l).data.toList = l := rfl
theorem bA_self (b : ByteArray) : bA b.data.toList = b := bytes_one rfl
theorem bA_size (l : List UInt8) : (bA l).size = l.length := by simp [bA, ByteArray.size]
theorem bA_app (l m : List UInt8) : bA (l ++ m) = bA l ++ bA m := bytes_one (by rw [app_list]; rfl)
theorem run_at {p : UInt8 → Bool} (pre l post : List UInt8) (hl : ∀ c ∈ l, p c = true) (hp : post.takeWhile p = []) : runP p (bA (pre ++ (l ++ post))) pre.length = pre.length + l.length := by
  unfold runP
  rw [bA_list, List.drop_left, List.takeWhile_append_of_pos hl, hp, List.append_nil]
theorem ext_at (pre l post : List UInt8) : (bA (pre ++ (l ++ post))).extract pre.length (pre.length + l.length) = bA l := by
  apply bytes_one
  rw [Lib.extract_data, bA_list, List.drop_left, Nat.add_sub_cancel_left, List.take_left]
  rfl
theorem there_at (pre t post : List UInt8) : thereB (bA (pre ++ (t ++ post))) pre.length t = true := by
  unfold thereB
  rw [bA_list, List.drop_left, List.isPrefixOf_iff_prefix]
  exact List.prefix_append _ _
theorem there_not (pre post : List UInt8) (c : UInt8) (t : List UInt8) (h : post.head? ≠ some c) : thereB (bA (pre ++ post)) pre.length (c :: t) = false := by
  unfold thereB
  rw [bA_list, List.drop_left]
  cases post with
  | nil => rfl
  | cons d r =>
    have hd : d ≠ c := by simpa using h
    simp [List.isPrefixOf]
    intro e
    exact absurd e.symm hd
/-- Each byte of a name is a word's. -/
theorem word_put (c : Int) (hc : partB c = true) : ∀ b ∈ putL c, wordB b = true := by
  have hch := part_char c hc
  have hr := char_range c hch
  intro b hb
  unfold putL at hb
  obtain ⟨n, hn, rfl⟩ := List.mem_map.1 hb
  have key : ∀ m : Int, 0 ≤ m → m < 256 → m ≠ 32 → m ≠ 9 → m ≠ 10 → m ≠ 61 → m ≠ 62 → m ≠ 60 → m ≠ 47 → m ≠ 34 → wordB (UInt8.ofNat m.toNat) = true := by
    intro m h0 h1 a1 a2 a3 a4 a5 a6 a7 a8
    have e : (UInt8.ofNat m.toNat).toNat = m.toNat := by simp; omega
    have ne : ∀ k : UInt8, (k.toNat : Int) ≠ m → (UInt8.ofNat m.toNat == k) = false := by
      intro k hk
      rw [beq_eq_false_iff_ne]
      intro q
      rw [← q, e] at hk
      omega
    unfold wordB blankB
    simp only [bne, ne 32 (by simpa using a1.symm), ne 9 (by simpa using a2.symm), ne 10 (by simpa using a3.symm), ne 61 (by simpa using a4.symm), ne 62 (by simpa using a5.symm), ne 60 (by simpa using a6.symm), ne 47 (by simpa using a7.symm), ne 34 (by simpa using a8.symm)]
    rfl
  by_cases h : c < 128
  · rw [put1 c h] at hn
    simp only [List.mem_singleton] at hn
    subst hn
    unfold partB startB at hc
    simp only [Bool.or_eq_true, decide_eq_true_eq] at hc
    exact key n (by omega) (by omega) (by omega) (by omega) (by omega) (by omega) (by omega) (by omega) (by omega) (by omega)
  · have := putN_high c (by omega) hr.2 n hn
    exact key n (by omega) (by omega) (by omega) (by omega) (by omega) (by omega) (by omega) (by omega) (by omega) (by omega)
theorem name_word {b : ByteArray} (h : nameP b = true) : ∀ c ∈ b.data.toList, wordB c = true := by
  unfold nameP nameB at h
  simp only [Bool.and_eq_true] at h
  have hp := h.2
  unfold partsB at hp
  cases hc : chars b.data.toList with
  | none => rw [hc] at hp; cases hp
  | some cs =>
    rw [hc] at hp
    have hf := (chars_flat _ _ _ (Nat.le_refl _) hc).1
    intro c hm
    rw [← hf] at hm
    obtain ⟨x, hx, hm⟩ := List.mem_flatMap.1 hm
    exact word_put x (List.all_eq_true.1 hp x hx) c hm
theorem name_cons {b : ByteArray} (h : nameP b = true) : ∃ c r, b.data.toList = c :: r ∧ wordB c = true := by
  cases hb : b.data.toList with
  | nil =>
    unfold nameP at h
    rw [hb] at h
    exact absurd h (by decide)
  | cons c r => exact ⟨c, r, rfl, name_word h c (by rw [hb]; simp)⟩
theorem esc_no60 (v : Bool) (c : Int) (hc : charB c = true) : ∀ b ∈ escC v c, notB 60 b = true := by
  have hr := char_range c hc
  intro b hb
  by_cases h : insteadL c v = []
  · rw [esc_self h] at hb
    obtain ⟨_, h60, _⟩ := self_ne h
    unfold putL at hb
    obtain ⟨n, hn, rfl⟩ := List.mem_map.1 hb
    have key : 0 ≤ n ∧ n < 256 ∧ n ≠ 60 := by
      by_cases h1 : c < 128
      · rw [put1 c h1] at hn
        simp only [List.mem_singleton] at hn
        subst hn
        exact ⟨by omega, by omega, h60⟩
      · have := putN_high c (by omega) hr.2 n hn
        omega
    unfold notB
    rw [bne_iff_ne]
    intro q
    have e := congrArg UInt8.toNat q
    simp at e
    omega
  · rw [esc_other h] at hb
    rcases instead_cases c v h with ⟨_, q⟩ | ⟨_, q⟩ | ⟨_, q⟩ | ⟨_, q⟩ | ⟨_, _, q⟩ | ⟨_, _, q⟩ | ⟨_, _, q⟩ <;> (rw [q] at hb; revert b; decide)
theorem escL_no60 (v : Bool) (l m : List UInt8) (h : escL v l = some m) : ∀ b ∈ m, notB 60 b = true := by
  unfold escL at h
  cases hc : chars l with
  | none => rw [hc] at h; cases h
  | some cs =>
    rw [hc] at h
    simp only [Option.map_some, Option.some.injEq] at h
    subst h
    have hf := (chars_flat _ _ _ (Nat.le_refl _) hc).2
    intro b hb
    obtain ⟨x, hx, hb⟩ := List.mem_flatMap.1 hb
    exact esc_no60 v x (hf x hx) b hb
theorem escL_ne (v : Bool) (l m : List UInt8) (h : escL v l = some m) (hl : l ≠ []) : m ≠ [] := by
  rintro rfl
  have := back v l [] h
  unfold undoL at this
  rw [undoF_nil] at this
  simp only [Prod.mk.injEq] at this
  exact hl this.1.symm
theorem esc_some (v : Bool) {b : ByteArray} (h : ¬ countZ b.data.toList < 0) : ∃ m, escL v b.data.toList = some m := by
  unfold countZ at h
  cases hc : chars b.data.toList with
  | none => rw [hc] at h; simp at h
  | some cs => exact ⟨_, by unfold escL; rw [hc]; rfl⟩
/-- An end, printed. -/
def endL (nm : ByteArray) : List UInt8 := [60, 47] ++ (nm.data.toList ++ [62])
theorem end_piece {nm : ByteArray} (h : nameP nm = true) : oneN (bA (endL nm)) 0 = .ok (⟨2, 0, nm, noB, []⟩, (endL nm).length) := by
  have h1 : thereB (bA (endL nm)) 0 [60, 47] = true := there_at [] [60, 47] _
  have r1 : runP wordB (bA (endL nm)) 2 = nm.size + 2 := by
    have := run_at (p := wordB) [60, 47] nm.data.toList [62] (name_word h) (by decide)
    rw [show nm.size + 2 = [(60 : UInt8), 47].length + nm.data.toList.length by simp; omega]
    exact this
  have e1 : (bA (endL nm)).extract 2 (nm.size + 2) = nm := by
    have := ext_at [60, 47] nm.data.toList [62]
    rw [bA_self] at this
    rw [show nm.size + 2 = [(60 : UInt8), 47].length + nm.data.toList.length by simp; omega]
    exact this
  have r2 : runP blankB (bA (endL nm)) (nm.size + 2) = nm.size + 2 := by
    have := run_at (p := blankB) ([60, 47] ++ nm.data.toList) [] [62] (by simp) (by decide)
    simpa [endL] using this
  have t1 : thereB (bA (endL nm)) (nm.size + 2) [62] = true := by
    have := there_at ([60, 47] ++ nm.data.toList) [62] []
    simpa [endL] using this
  unfold oneN
  rw [if_pos h1]
  unfold L.endP
  simp only [Nat.zero_add]
  rw [r1, e1, r2, if_neg (by rw [h]; simp), if_pos t1]
  simp [endL]
/-- An attribute, printed, without the blank ahead. -/
def attC (a : Attr) (ev : List UInt8) : List UInt8 := a.1.data.toList ++ ([61, 34] ++ (ev ++ [34]))
theorem att_piece {a : Attr} {ev post : List UInt8} {acc : List Attr} (h1 : nameP a.1 = true) (h2 : escL true a.2.data.toList = some ev) (h3 : a.2.size ≤ 1500) (h4 : acc.length < 20) (h5 : ∀ x ∈ acc, x.1 ≠ a.1) : attrP (bA (attC a ev ++ post)) 0 acc = .ok (a, (attC a ev).length) := by
  have r1 : runP wordB (bA (attC a ev ++ post)) 0 = a.1.size := by
    have := run_at (p := wordB) [] a.1.data.toList ([61, 34] ++ (ev ++ [34]) ++ post) (name_word h1) (by simp [wordB, blankB])
    simpa [attC] using this
  have e1 : (bA (attC a ev ++ post)).extract 0 a.1.size = a.1 := by
    have := ext_at [] a.1.data.toList ([61, 34] ++ (ev ++ [34]) ++ post)
    rw [bA_self] at this
    simpa [attC] using this
  have t1 : thereB (bA (attC a ev ++ post)) a.1.size [61] = true := by
    have := there_at a.1.data.toList [61] ([34] ++ (ev ++ [34]) ++ post)
    simpa [attC] using this
  have t2 : thereB (bA (attC a ev ++ post)) (a.1.size + 1) [34] = true := by
    have := there_at (a.1.data.toList ++ [61]) [34] ((ev ++ [34]) ++ post)
    simpa [attC] using this
  have r2 : runP (notB 34) (bA (attC a ev ++ post)) (a.1.size + 2) = a.1.size + 2 + ev.length := by
    have := run_at (p := notB 34) (a.1.data.toList ++ [61, 34]) ev ([34] ++ post) (fun c hc => by
      have := escL_plain _ _ h2 c hc
      unfold plainB at this
      simp only [Bool.and_eq_true] at this
      exact this.1.1.1.2) (by simp [notB])
    simpa [attC] using this
  have e2 : (bA (attC a ev ++ post)).extract (a.1.size + 2) (a.1.size + 2 + ev.length) = bA ev := by
    have := ext_at (a.1.data.toList ++ [61, 34]) ev ([34] ++ post)
    simpa [attC] using this
  have hu : undoB true (bA ev) = (a.2, ev.length, 0) := by
    unfold undoB
    rw [bA_list, back true _ _ h2]
  have hsz : (bA (attC a ev ++ post)).size = a.1.size + 2 + ev.length + 1 + post.length := by
    rw [bA_size]
    simp [attC]
    try omega
  have := attr_mk (s := bA (attC a ev ++ post)) (i := 0) (acc := acc) (by rw [r1, e1]; exact h1) h4 (by
      rw [r1, e1]
      rw [List.any_eq_false]
      intro x hx
      simpa using h5 x hx) (by rw [r1]; exact t1) (by rw [r1]; exact t2) (by rw [r1, r2, hsz]; omega) (by rw [r1, r2, e2, hu]) (by rw [r1, r2, e2, hu]; exact h3)
  rw [this, r1, e1, r2, e2, hu]
  simp [attC]
  try omega
/-- Attributes, printed: escaped values are handed along. -/
def attsL : List (Attr × List UInt8) → List UInt8
  | [] => []
  | (a, ev) :: r => 32 :: (attC a ev ++ attsL r)
theorem word_not {c : UInt8} (h : wordB c = true) : blankB c = false ∧ c ≠ 62 ∧ c ≠ 47 := by
  unfold wordB at h
  simp only [Bool.and_eq_true, Bool.not_eq_true', bne_iff_ne, ne_eq] at h
  exact ⟨h.1.1.1.1.1, h.1.1.1.2, h.1.2⟩
theorem atts_piece {tl : List UInt8} (htl : tl.head? = some 62 ∨ (tl.head? = some 47 ∧ tl.tail.head? = some 62)) : ∀ (r : List (Attr × List UInt8)) (f : Nat) (pre : List UInt8) (acc : List Attr), (∀ p ∈ r, nameP p.1.1 = true ∧ escL true p.1.2.data.toList = some p.2 ∧ p.1.2.size ≤ 1500) → acc.length + r.length ≤ 20 → Apart (r.map (·.1)) → (∀ x ∈ acc, ∀ p ∈ r, x.1 ≠ p.1.1) → r.length < f →
    attrsF f (bA (pre ++ (attsL r ++ tl))) pre.length acc = .ok (acc ++ r.map (·.1), pre.length + (attsL r).length)
  | [], 0, _, _, _, _, _, _, hf => by simp at hf
  | [], f + 1, pre, acc, _, _, _, _, _ => by
    have hb : tl.takeWhile blankB = [] := by
      cases tl with
      | nil => rfl
      | cons c t =>
        have hc : blankB c = false := by
          rcases htl with h | ⟨h, _⟩ <;> (simp only [List.head?_cons, Option.some.injEq] at h; rw [h]; rfl)
        rw [List.takeWhile_cons_of_neg (by simp [hc])]
    have r1 : runP blankB (bA (pre ++ (attsL [] ++ tl))) pre.length = pre.length := by
      have := run_at (p := blankB) pre [] tl (by simp) hb
      simpa [attsL] using this
    rw [attrs_succ, r1, if_neg (by simp [moreB])]
    simp [attsL]
  | _ :: _, 0, _, _, _, _, _, _, hf => by simp at hf
  | (a, ev) :: r, f + 1, pre, acc, hr, hl, ha, hx, hf => by
    obtain ⟨h1, h2, h3⟩ := hr (a, ev) (List.mem_cons_self ..)
    dsimp only at h1 h2 h3
    obtain ⟨c, w, hc, hw⟩ := name_cons h1
    obtain ⟨n1, n2, n3⟩ := word_not hw
    have e0 : pre ++ (attsL ((a, ev) :: r) ++ tl) = (pre ++ [32]) ++ (attC a ev ++ (attsL r ++ tl)) := by simp [attsL]
    have hcc : ∃ rest, attC a ev ++ (attsL r ++ tl) = c :: rest := ⟨_, by rw [attC, hc]; rfl⟩
    obtain ⟨rest, hrest⟩ := hcc
    have r1 : runP blankB (bA (pre ++ (attsL ((a, ev) :: r) ++ tl))) pre.length = (pre ++ [32]).length := by
      have := run_at (p := blankB) pre [32] (attC a ev ++ (attsL r ++ tl)) (by simp [blankB]) (by rw [hrest, List.takeWhile_cons_of_neg (by simp [n1])])
      rw [e0]
      simpa using this
    have hm : moreB (bA (pre ++ (attsL ((a, ev) :: r) ++ tl))) pre.length (pre ++ [32]).length = true := by
      unfold moreB
      rw [e0, hrest, there_not _ _ 62 [] (by simp [n2]), there_not _ _ 47 [62] (by simp [n3]), bA_size]
      simp
    have hat : attrP (bA (pre ++ (attsL ((a, ev) :: r) ++ tl))) (pre ++ [32]).length acc = .ok (a, (pre ++ [32]).length + (attC a ev).length) := by
      have h := att_piece (post := attsL r ++ tl) h1 h2 h3 (acc := acc) (by simp at hl; omega) (fun x hx' => hx x hx' (a, ev) (List.mem_cons_self ..))
      have h' := attr_pre (x := bA (pre ++ [32])) h
      rw [← bA_app, bA_size] at h'
      rw [e0]
      exact h'
    rw [attrs_succ, r1, if_pos hm, hat]
    simp only
    have e1 : pre ++ (attsL ((a, ev) :: r) ++ tl) = (pre ++ [32] ++ attC a ev) ++ (attsL r ++ tl) := by simp [attsL]
    have e2 : (pre ++ [32]).length + (attC a ev).length = (pre ++ [32] ++ attC a ev).length := by simp; omega
    rw [e1, e2, atts_piece htl r f (pre ++ [32] ++ attC a ev) (acc ++ [a]) (fun p hp => hr p (List.mem_cons_of_mem _ hp)) (by simp at hl ⊢; omega) ha.2 (fun x hx' p hp => by
      rcases List.mem_append.1 hx' with q | q
      · exact hx x q p (List.mem_cons_of_mem _ hp)
      · simp only [List.mem_singleton] at q
        subst q
        exact (ha.1 p.1 (List.mem_map_of_mem hp)).symm) (by simpa using hf)]
    simp [attsL]
    omega
/-- A tag, printed, without its end. -/
def tagL (nm : ByteArray) (r : List (Attr × List UInt8)) : List UInt8 := [60] ++ (nm.data.toList ++ attsL r)
theorem atts_len (r : List (Attr × List UInt8)) : r.length ≤ (attsL r).length := by
  induction r with
  | nil => simp
  | cons p r ih => obtain ⟨a, ev⟩ := p; simp [attsL]; omega
theorem sort_self {l : List Attr} (h : Rise l) (ha : Apart l) : sortA l = l := rise_one (sort_rise l ha).1 h (sort_rise l ha).2
theorem tag_piece {nm : ByteArray} {r : List (Attr × List UInt8)} (hn : nameP nm = true) (hr : ∀ p ∈ r, nameP p.1.1 = true ∧ escL true p.1.2.data.toList = some p.2 ∧ p.1.2.size ≤ 1500) (hl : r.length ≤ 20) (ha : Apart (r.map (·.1))) (hs : Rise (r.map (·.1))) (b : Bool) :
    oneN (bA (tagL nm r ++ (if b then [62] else [47, 62]))) 0 = .ok (⟨if b then 1 else 3, 0, nm, noB, r.map (·.1)⟩, (tagL nm r ++ (if b then [62] else [47, 62])).length) := by
  obtain ⟨tl, htl⟩ : ∃ tl : List UInt8, tl = (if b then [62] else [47, 62]) := ⟨_, rfl⟩
  have ht : tl.head? = some 62 ∨ (tl.head? = some 47 ∧ tl.tail.head? = some 62) := by cases b <;> simp [htl]
  rw [← htl]
  obtain ⟨c, w, hc, hw⟩ := name_cons hn
  obtain ⟨n1, n2, n3⟩ := word_not hw
  have t1 : thereB (bA (tagL nm r ++ tl)) 0 [60, 47] = false := by
    unfold thereB tagL
    rw [bA_list, hc]
    simp [List.isPrefixOf]
    exact fun q => n3 q.symm
  have t2 : thereB (bA (tagL nm r ++ tl)) 0 [60] = true := there_at [] [60] (nm.data.toList ++ attsL r ++ tl)
  have wl : (attsL r ++ tl).takeWhile wordB = [] := by
    cases r with
    | nil => cases b <;> simp [htl, attsL, wordB, blankB]
    | cons p r => obtain ⟨a, ev⟩ := p; simp [attsL, wordB, blankB]
  have e0 : tagL nm r ++ tl = [60] ++ (nm.data.toList ++ (attsL r ++ tl)) := by simp [tagL]
  have r1 : runP wordB (bA (tagL nm r ++ tl)) 1 = ([60] ++ nm.data.toList).length := by
    rw [e0]
    rw [List.length_append]
    exact run_at (p := wordB) [60] nm.data.toList (attsL r ++ tl) (name_word hn) wl
  have x1 : (bA (tagL nm r ++ tl)).extract 1 ([60] ++ nm.data.toList).length = nm := by
    rw [e0]
    have := ext_at [60] nm.data.toList (attsL r ++ tl)
    rw [bA_self] at this
    rw [List.length_append]
    exact this
  have hat : attrsF ((bA (tagL nm r ++ tl)).size + 1) (bA (tagL nm r ++ tl)) ([60] ++ nm.data.toList).length [] = .ok (r.map (·.1), ([60] ++ nm.data.toList).length + (attsL r).length) := by
    have e1 : tagL nm r ++ tl = ([60] ++ nm.data.toList) ++ (attsL r ++ tl) := by simp [tagL]
    have := atts_piece ht r ((bA (tagL nm r ++ tl)).size + 1) ([60] ++ nm.data.toList) [] hr (by simpa using hl) ha (by simp) (by
      rw [bA_size, e1]
      have := atts_len r
      simp
      omega)
    rw [e1] at this ⊢
    simpa using this
  have e3 : tagL nm r ++ tl = ([60] ++ nm.data.toList ++ attsL r) ++ (tl ++ []) := by simp [tagL]
  have t3 : thereB (bA (tagL nm r ++ tl)) (([60] ++ nm.data.toList).length + (attsL r).length) tl = true := by
    have := there_at ([60] ++ nm.data.toList ++ attsL r) tl []
    rw [e3]
    rw [List.length_append] at this
    exact this
  unfold oneN
  rw [if_neg (by rw [t1]; simp), if_pos t2]
  unfold begP
  simp only [Nat.zero_add]
  rw [r1, x1, if_neg (by rw [hn]; simp), hat]
  simp only
  cases b with
  | true =>
    simp only [if_true] at htl
    subst htl
    rw [if_pos t3, sort_self hs ha]
    simp [tagL]
    omega
  | false =>
    simp only [Bool.false_eq_true, if_false] at htl
    subst htl
    have t4 : thereB (bA (tagL nm r ++ [47, 62])) (([60] ++ nm.data.toList).length + (attsL r).length) [62] = false := by
      have := there_not ([60] ++ nm.data.toList ++ attsL r) [47, 62] 62 [] (by simp)
      rw [List.length_append] at this
      rw [e3]
      simpa using this
    rw [if_neg (by rw [t4]; simp), if_pos t3, sort_self hs ha]
    simp [tagL]
    omega
end S
end Go.Proofs.YtmgemdhpjibdiaaDoor
namespace Go.Proofs.YtmgemdhpjibdiaaDoor
namespace S
open P L G E
def evs (l : List Attr) : List (Attr × List UInt8) := l.map fun a => (a, (escL true a.2.data.toList).getD [])
theorem evs_map (l : List Attr) : (evs l).map (·.1) = l := by simp [evs, Function.comp_def]
def txtL (b : ByteArray) : List UInt8 := (escL false b.data.toList).getD []
/-- The ends of all that is open beyond a level. -/
def closeL (op : List ByteArray) (n : Nat) : List UInt8 := (op.drop n).reverse.flatMap endL
def leafB (x : Itm) : List Itm → Bool
  | [] => true
  | y :: _ => decide (y.level ≤ x.level)
/-- Items, printed, by what is open. -/
def printF : List Itm → List ByteArray → List UInt8
  | [], op => closeL op 0
  | x :: l, op => closeL op x.level.toNat ++ (if x.kind = 2 then txtL x.text ++ printF l (op.take x.level.toNat)
      else if leafB x l = true then tagL x.name (evs x.attrs) ++ ([47, 62] ++ printF l (op.take x.level.toNat))
      else tagL x.name (evs x.attrs) ++ ([62] ++ printF l (op.take x.level.toNat ++ [x.name])))
/-- May an item's parts be, but for a text's length? -/
def okI (x : Itm) : Prop := (x.kind = 2 ∧ x.name = noB ∧ x.attrs = [] ∧ ¬ countZ x.text.data.toList < 0 ∧ x.text ≠ noB) ∨ (x.kind = 1 ∧ x.text = noB ∧ nameP x.name = true ∧ x.attrs.length ≤ 20 ∧ (∀ a ∈ x.attrs, okA a) ∧ Rise x.attrs ∧ Apart x.attrs)
def longB (x : Itm) : Bool := decide (1500 < x.text.size)
/-- Items that stand as a document's do, no text right behind another one at its level. -/
def chainF : Option Itm → List Itm → Prop
  | _, [] => True
  | prev, x :: l => standsB prev x = true ∧ (∀ p, prev = some p → ¬ (p.kind = 2 ∧ x.kind = 2 ∧ p.level = x.level)) ∧ chainF (some x) l
/-- From a place on, a text is read so, by the items so far and what is open. -/
def Goes2 (s : ByteArray) (i : Nat) (its : List Itm) (op : List ByteArray) (R : Except Bad (List Itm)) : Prop := ∀ f, s.size - i < f → parseF f s i its op = R
theorem goes_step {s : ByteArray} {i n : Nat} {its its' : List Itm} {op op' : List ByteArray} {t : Tok} {R : Except Bad (List Itm)} (hi : i < s.size) (ho : oneN s i = .ok (t, n)) (ht : takeP its op t = .ok (its', op')) (h : Goes2 s n its' op' R) : Goes2 s i its op R := by
  intro f hf
  have hg := one_go hi ho
  rw [parse_next (by omega) hi ho ht]
  exact h _ (by omega)
/-- A tag in its place. -/
theorem tag_in {pre tg post : List UInt8} {t : Tok} (h : oneN (bA tg) 0 = .ok (t, tg.length)) (hk : t.kind ≠ 4) (ht : tg ≠ []) : oneN (bA (pre ++ (tg ++ post))) pre.length = .ok ({ t with pos := pre.length + t.pos }, (pre ++ tg).length) := by
  have hs : 0 < (bA tg).size := by rw [bA_size]; exact List.length_pos_iff.2 ht
  have h1 := one_app (m := bA post) hs h hk
  have h2 := one_pre (x := bA pre) (s := bA tg ++ bA post) (i := 0) (by rw [app_size]; omega) h1
  rw [← bA_app, ← bA_app, bA_size, Nat.add_zero] at h2
  rw [h2, List.length_append]
theorem lt_in {pre tg post : List UInt8} (ht : tg ≠ []) : pre.length < (bA (pre ++ (tg ++ post))).size := by
  rw [bA_size]
  have := List.length_pos_iff.2 ht
  simp
  omega
theorem end_ne (nm : ByteArray) : endL nm ≠ [] := by simp [endL]
theorem close_snoc {op : List ByteArray} {nm : ByteArray} {n : Nat} (h : n ≤ op.length) : closeL (op ++ [nm]) n = endL nm ++ closeL op n := by
  unfold closeL
  rw [List.drop_append_of_le_length h, List.reverse_append]
  simp
theorem close_all {op : List ByteArray} {n : Nat} (h : op.length ≤ n) : closeL op n = [] := by
  unfold closeL
  rw [List.drop_eq_nil_of_le h]
  rfl
/-- What is open beyond a level is closed. -/
theorem close_goes {its : List Itm} {R : Except Bad (List Itm)} {n : Nat} : ∀ (k : Nat) (op : List ByteArray) (pre post : List UInt8), op.length = n + k → (∀ m ∈ op, nameP m = true) →
    Goes2 (bA (pre ++ (closeL op n ++ post))) (pre ++ closeL op n).length its (op.take n) R → Goes2 (bA (pre ++ (closeL op n ++ post))) pre.length its op R
  | 0, op, pre, post, hl, _, h => by
    rw [close_all (by omega)] at h ⊢
    rw [List.take_of_length_le (by omega)] at h
    simpa using h
  | k + 1, op, pre, post, hl, hn, h => by
    obtain ⟨op0, nm, rfl⟩ : ∃ op0 nm, op = op0 ++ [nm] := by
      have : op ≠ [] := by intro q; rw [q] at hl; simp at hl
      exact ⟨op.dropLast, op.getLast this, (List.dropLast_concat_getLast this).symm⟩
    have hl0 : op0.length = n + k := by simp at hl; omega
    have hnm : nameP nm = true := hn nm (by simp)
    rw [close_snoc (by omega)] at h ⊢
    have e : pre ++ ((endL nm ++ closeL op0 n) ++ post) = pre ++ (endL nm ++ (closeL op0 n ++ post)) := by simp
    have e2 : pre ++ (endL nm ++ (closeL op0 n ++ post)) = (pre ++ endL nm) ++ (closeL op0 n ++ post) := by simp
    have hone := tag_in (pre := pre) (post := closeL op0 n ++ post) (end_piece hnm) (by show (2 : Int) ≠ 4; decide) (end_ne nm)
    have htk : takeP its (op0 ++ [nm]) { (⟨2, 0, nm, noB, []⟩ : Tok) with pos := pre.length + 0 } = .ok (its, op0) := by
      unfold takeP
      simp [closesB]
    rw [e]
    refine goes_step (lt_in (end_ne nm)) hone htk ?_
    rw [e2]
    refine close_goes k op0 (pre ++ endL nm) post hl0 (fun m hm => hn m (List.mem_append_left _ hm)) ?_
    rw [e, e2] at h
    rw [List.take_append_of_le_length (by omega)] at h
    have e3 : pre ++ (endL nm ++ closeL op0 n) = pre ++ endL nm ++ closeL op0 n := by simp
    rw [e3] at h
    exact h
/-- A text in its place. -/
theorem text_in {tx : ByteArray} {pre m post : List UInt8} (h : escL false tx.data.toList = some m) (hm : m ≠ []) (hp : post.takeWhile (notB 60) = []) : oneN (bA (pre ++ (m ++ post))) pre.length = if 1500 < tx.size then .error ((pre.length : Int), 34) else .ok (⟨4, pre.length, noB, tx, []⟩, (pre ++ m).length) := by
  have h60 : (m ++ post).head? ≠ some 60 := by
    cases m with
    | nil => exact absurd rfl hm
    | cons c r =>
      have := escL_no60 false _ _ h c (by simp)
      unfold notB at this
      simpa using this
  have r1 : runP (notB 60) (bA (pre ++ (m ++ post))) pre.length = (pre ++ m).length := by
    rw [List.length_append]
    exact run_at pre m post (escL_no60 false _ _ h) hp
  have e1 : (bA (pre ++ (m ++ post))).extract pre.length (pre ++ m).length = bA m := by
    rw [List.length_append]
    exact ext_at pre m post
  have hu : undoB false (bA m) = (tx, m.length, 0) := by
    unfold undoB
    rw [bA_list, back false _ _ h]
  unfold oneN
  rw [if_neg (by rw [there_not pre (m ++ post) 60 [47] h60]; simp), if_neg (by rw [there_not pre (m ++ post) 60 [] h60]; simp)]
  unfold textP
  simp only
  rw [r1, e1, hu]
  simp
theorem evs_ok {x : Itm} (h : ∀ a ∈ x.attrs, okA a) : ∀ p ∈ evs x.attrs, nameP p.1.1 = true ∧ escL true p.1.2.data.toList = some p.2 ∧ p.1.2.size ≤ 1500 := by
  intro p hp
  unfold evs at hp
  obtain ⟨a, ha, rfl⟩ := List.mem_map.1 hp
  have ok := h a ha
  obtain ⟨m, hm⟩ := esc_some true ok.2.1
  refine ⟨ok.1, ?_, ok.2.2⟩
  dsimp only
  rw [hm]
  rfl
/-- What is printed behind a text begins with a tag. -/
theorem print_head {x : Itm} {l : List Itm} {op : List ByteArray} (hx : x.kind = 2) (ho : (op.length : Int) = x.level) (h1 : 1 ≤ x.level) (hc : chainF (some x) l) (hk : ∀ y ∈ l, okI y) : (printF l op).takeWhile (notB 60) = [] := by
  have cl : ∀ n, n < op.length → ∀ r, (closeL op n ++ r).takeWhile (notB 60) = [] := by
    intro n hn r
    obtain ⟨op0, nm, rfl⟩ : ∃ op0 nm, op = op0 ++ [nm] := by
      have : op ≠ [] := by intro q; rw [q] at hn; simp at hn
      exact ⟨op.dropLast, op.getLast this, (List.dropLast_concat_getLast this).symm⟩
    rw [close_snoc (by simp at hn; omega)]
    simp [endL, notB]
  cases l with
  | nil =>
    have := cl 0 (by omega) []
    simpa [printF] using this
  | cons y l =>
    obtain ⟨s1, s2, _⟩ := hc
    unfold standsB at s1
    simp only [Bool.and_eq_true, decide_eq_true_eq] at s1
    rw [hx] at s1
    simp only [show ((2 : Int) = 1) = False by decide, if_false] at s1
    unfold printF
    by_cases hlt : y.level.toNat < op.length
    · exact cl _ hlt _
    · have he : y.level = x.level := by omega
      have hk2 : y.kind ≠ 2 := fun q => s2 x rfl ⟨hx, q, he.symm⟩
      rw [close_all (by omega), if_neg hk2]
      split <;> simp [tagL, notB]
theorem tag_ne (nm : ByteArray) (r : List (Attr × List UInt8)) (q : List UInt8) : tagL nm r ++ q ≠ [] := by simp [tagL]
/-- What is printed is read. -/
theorem print_goes : ∀ (l : List Itm) (prev : Option Itm) (its : List Itm) (op : List ByteArray) (pre : List UInt8), chainF prev l → (∀ x ∈ l, okI x ∧ x.level < 40) → its.length + l.length ≤ 1000 → (prev = none → its = []) → (prev ≠ none → its ≠ []) → (l = [] → its ≠ []) → (∀ m ∈ op, nameP m = true) → (∀ y, l.head? = some y → y.level ≤ (op.length : Int)) →
    ∃ R, Goes2 (bA (pre ++ printF l op)) pre.length its op R ∧ (l.any longB = false → R = .ok (its ++ l)) ∧ (l.any longB = true → ∃ q, R = .error (q, 34))
  | [], prev, its, op, pre, _, _, _, _, _, hne, hop, _ => by
    refine ⟨.ok its, ?_, by simp, by simp⟩
    have e : pre ++ printF [] op = pre ++ (closeL op 0 ++ []) := by simp [printF]
    rw [e]
    refine close_goes op.length op pre [] (by omega) hop ?_
    intro f hf
    rw [parse_end (by omega) (by rw [bA_size]; simp)]
    have h0 : its.length ≠ 0 := fun q => hne rfl (List.length_eq_zero_iff.1 q)
    rw [if_neg h0]
    simp
  | x :: l, prev, its, op, pre, hc, hk, hlen, hp0, hp1, _, hop, hh => by
    obtain ⟨s1, s2, s3⟩ := hc
    obtain ⟨okx, lx⟩ := hk x (List.mem_cons_self ..)
    have hlx := hh x rfl
    have x0 : 0 ≤ x.level := by
      unfold standsB at s1
      cases prev with
      | none => simp at s1; omega
      | some p => simp at s1; omega
    have hn : ((x.level.toNat : Nat) : Int) = x.level := by omega
    have hnl : x.level.toNat ≤ op.length := by omega
    have hop' : ∀ m ∈ op.take x.level.toNat, nameP m = true := fun m hm => hop m (List.mem_of_mem_take hm)
    have hol : (op.take x.level.toNat).length = x.level.toNat := by rw [List.length_take]; omega
    have lz : x.level = 0 → its = [] ∧ x.kind = 1 := by
      intro q
      unfold standsB at s1
      cases prev with
      | none => simp at s1; exact ⟨hp0 rfl, s1.2⟩
      | some p => simp at s1; omega
    have hlen' : its.length + (l.length + 1) ≤ 1000 := by simpa using hlen
    have hadd : ∀ t : Tok, itemOf (op.take x.level.toNat).length t = x → t.kind ≠ 2 → takeP its (op.take x.level.toNat) t = .ok (its ++ [x], if t.kind = 1 then op.take x.level.toNat ++ [t.name] else op.take x.level.toNat) := by
      intro t ht hk2
      have ha : addE its.length x = 0 := by
        unfold addE
        rw [if_neg, if_neg (by omega), if_neg (by omega)]
        rintro ⟨q, r⟩
        obtain ⟨z1, z2⟩ := lz q
        rcases r with r | r
        · rw [z1] at r; simp at r
        · omega
      unfold takeP
      rw [if_neg hk2, ht, ha]
      simp
    unfold printF
    rcases okx with ⟨k2, k3, k4, k5, k6⟩ | ⟨k2, k3, k4, k5, k6, k7, k8⟩
    · -- a text
      rw [if_pos k2]
      have x1 : 1 ≤ x.level := by
        rcases Int.lt_or_le x.level 1 with q | q
        · have := (lz (by omega)).2; omega
        · exact q
      obtain ⟨m, hm⟩ := esc_some false k5
      have em : txtL x.text = m := by unfold txtL; rw [hm]; rfl
      rw [em]
      have hmn : m ≠ [] := escL_ne false _ _ hm (fun q => k6 (bytes_one q))
      have hhd : (printF l (op.take x.level.toNat)).takeWhile (notB 60) = [] := print_head k2 (by rw [hol]; exact hn) x1 s3 (fun y hy => (hk y (List.mem_cons_of_mem _ hy)).1)
      have hone := text_in (pre := pre ++ closeL op x.level.toNat) (post := printF l (op.take x.level.toNat)) hm hmn hhd
      have e1 : pre ++ (closeL op x.level.toNat ++ (m ++ printF l (op.take x.level.toNat))) = (pre ++ closeL op x.level.toNat) ++ (m ++ printF l (op.take x.level.toNat)) := by simp
      have e2 : pre ++ (closeL op x.level.toNat ++ (m ++ printF l (op.take x.level.toNat))) = (pre ++ closeL op x.level.toNat ++ m) ++ printF l (op.take x.level.toNat) := by simp
      by_cases hlg : 1500 < x.text.size
      · rw [if_pos hlg] at hone
        refine ⟨.error (((pre ++ closeL op x.level.toNat).length : Int), 34), ?_, ?_, fun _ => ⟨_, rfl⟩⟩
        · refine close_goes (op.length - x.level.toNat) op pre _ (by omega) hop ?_
          rw [e1]
          intro f hf
          exact parse_bad (by omega) (lt_in hmn) hone
        · intro q
          simp [longB, hlg] at q
      · rw [if_neg hlg] at hone
        obtain ⟨R, g1, g2, g3⟩ := print_goes l (some x) (its ++ [x]) (op.take x.level.toNat) (pre ++ closeL op x.level.toNat ++ m) s3 (fun y hy => hk y (List.mem_cons_of_mem _ hy)) (by simp; omega) (by simp) (by simp) (by simp) hop' (fun y hy => by
          cases l with
          | nil => cases hy
          | cons z l =>
            simp only [List.head?_cons, Option.some.injEq] at hy
            subst hy
            have q := s3.1
            unfold standsB at q
            simp only [Bool.and_eq_true, decide_eq_true_eq, k2] at q
            rw [hol]
            have := q.2
            simp at this
            omega)
        refine ⟨R, ?_, ?_, ?_⟩
        · refine close_goes (op.length - x.level.toNat) op pre _ (by omega) hop ?_
          rw [e1]
          refine goes_step (lt_in hmn) hone (hadd _ ?_ (by show (4 : Int) ≠ 2; decide)) ?_
          · unfold itemOf
            simp only [if_true]
            rw [hol, hn]
            cases x
            simp only [Itm.mk.injEq] at *
            exact ⟨trivial, k2.symm, k3.symm, trivial, k4.symm⟩
          · simp only [show ((4 : Int) = 1) = False by decide, if_false]
            rw [← e1, e2]
            exact g1
        · intro q
          rw [g2 (by simpa [longB, hlg] using q)]
          simp
        · intro q
          exact g3 (by simpa [longB, hlg] using q)
    · -- an element
      rw [if_neg (by omega)]
      have hlg : longB x = false := by unfold longB; rw [k3]; rfl
      have hat := evs_ok (x := x) k6
      have hel : (evs x.attrs).length ≤ 20 := by simp [evs]; omega
      have hmap := evs_map x.attrs
      have htag := fun b => tag_piece (r := evs x.attrs) k4 hat hel (by rw [hmap]; exact k8) (by rw [hmap]; exact k7) b
      have hitem : ∀ (kd : Int) (ps : Nat), kd ≠ 4 → itemOf (op.take x.level.toNat).length ⟨kd, ps, x.name, noB, x.attrs⟩ = x := by
        intro kd ps hkd
        unfold itemOf
        rw [if_neg hkd, hol, hn]
        cases x
        simp only [Itm.mk.injEq] at *
        exact ⟨trivial, k2.symm, trivial, k3.symm, trivial⟩
      rw [hmap] at htag
      cases hlf : leafB x l with
      | true =>
        rw [if_pos rfl]
        have ht := htag false
        simp only [Bool.false_eq_true, if_false] at ht
        have hone := tag_in (pre := pre ++ closeL op x.level.toNat) (post := printF l (op.take x.level.toNat)) ht (by show (3 : Int) ≠ 4; decide) (tag_ne _ _ _)
        have e1 : pre ++ (closeL op x.level.toNat ++ (tagL x.name (evs x.attrs) ++ ([47, 62] ++ printF l (op.take x.level.toNat)))) = (pre ++ closeL op x.level.toNat) ++ ((tagL x.name (evs x.attrs) ++ [47, 62]) ++ printF l (op.take x.level.toNat)) := by simp
        have e2 : (pre ++ closeL op x.level.toNat) ++ ((tagL x.name (evs x.attrs) ++ [47, 62]) ++ printF l (op.take x.level.toNat)) = (pre ++ closeL op x.level.toNat ++ (tagL x.name (evs x.attrs) ++ [47, 62])) ++ printF l (op.take x.level.toNat) := by simp
        obtain ⟨R, g1, g2, g3⟩ := print_goes l (some x) (its ++ [x]) (op.take x.level.toNat) (pre ++ closeL op x.level.toNat ++ (tagL x.name (evs x.attrs) ++ [47, 62])) s3 (fun y hy => hk y (List.mem_cons_of_mem _ hy)) (by simp; omega) (by simp) (by simp) (by simp) hop' (fun y hy => by
          cases l with
          | nil => cases hy
          | cons z l =>
            simp only [List.head?_cons, Option.some.injEq] at hy
            subst hy
            simp only [leafB, decide_eq_true_eq] at hlf
            rw [hol]
            omega)
        refine ⟨R, ?_, ?_, ?_⟩
        · refine close_goes (op.length - x.level.toNat) op pre _ (by omega) hop ?_
          rw [e1]
          refine goes_step (lt_in (tag_ne _ _ _)) hone (hadd _ (hitem 3 _ (by decide)) (by show (3 : Int) ≠ 2; decide)) ?_
          simp only [show ((3 : Int) = 1) = False by decide, if_false]
          rw [e2]
          exact g1
        · intro q
          rw [g2 (by simpa [hlg] using q)]
          simp
        · intro q
          exact g3 (by simpa [hlg] using q)
      | false =>
        rw [if_neg (by simp)]
        have ht := htag true
        simp only [if_true] at ht
        have hone := tag_in (pre := pre ++ closeL op x.level.toNat) (post := printF l (op.take x.level.toNat ++ [x.name])) ht (by show (1 : Int) ≠ 4; decide) (tag_ne _ _ _)
        have e1 : pre ++ (closeL op x.level.toNat ++ (tagL x.name (evs x.attrs) ++ ([62] ++ printF l (op.take x.level.toNat ++ [x.name])))) = (pre ++ closeL op x.level.toNat) ++ ((tagL x.name (evs x.attrs) ++ [62]) ++ printF l (op.take x.level.toNat ++ [x.name])) := by simp
        have e2 : (pre ++ closeL op x.level.toNat) ++ ((tagL x.name (evs x.attrs) ++ [62]) ++ printF l (op.take x.level.toNat ++ [x.name])) = (pre ++ closeL op x.level.toNat ++ (tagL x.name (evs x.attrs) ++ [62])) ++ printF l (op.take x.level.toNat ++ [x.name]) := by simp
        obtain ⟨R, g1, g2, g3⟩ := print_goes l (some x) (its ++ [x]) (op.take x.level.toNat ++ [x.name]) (pre ++ closeL op x.level.toNat ++ (tagL x.name (evs x.attrs) ++ [62])) s3 (fun y hy => hk y (List.mem_cons_of_mem _ hy)) (by simp; omega) (by simp) (by simp) (by simp) (fun m hm => by
          rcases List.mem_append.1 hm with q | q
          · exact hop' m q
          · simp only [List.mem_singleton] at q; rw [q]; exact k4) (fun y hy => by
          cases l with
          | nil => cases hy
          | cons z l =>
            simp only [List.head?_cons, Option.some.injEq] at hy
            subst hy
            have q := s3.1
            unfold standsB at q
            simp only [Bool.and_eq_true, decide_eq_true_eq, k2, if_true] at q
            rw [List.length_append, hol]
            simp
            omega)
        refine ⟨R, ?_, ?_, ?_⟩
        · refine close_goes (op.length - x.level.toNat) op pre _ (by omega) hop ?_
          rw [e1]
          refine goes_step (lt_in (tag_ne _ _ _)) hone (hadd _ (hitem 1 _ (by decide)) (by show (1 : Int) ≠ 2; decide)) ?_
          simp only [if_true]
          rw [e2]
          exact g1
        · intro q
          rw [g2 (by simpa [hlg] using q)]
          simp
        · intro q
          exact g3 (by simpa [hlg] using q)
end S
end Go.Proofs.YtmgemdhpjibdiaaDoor
namespace Go.Proofs.YtmgemdhpjibdiaaDoor
namespace S
open P L G E
def emptyT (x : Itm) : Bool := decide (x.kind = 2) && decide (x.text = noB)
def joinB (c x : Itm) : Bool := decide (x.kind = 2 ∧ c.kind = 2 ∧ c.level = x.level)
/-- A row behind an item that is being made. -/
def goF : Itm → List Itm → List Itm
  | c, [] => [c]
  | c, x :: l => if joinB c x = true then goF { c with text := c.text ++ x.text } l else c :: goF x l
def normP : List Itm → List Itm
  | [] => []
  | x :: l => goF x l
def fullP (l : List Itm) : List Itm := l.filter fun x => !emptyT x
/-- A row, made normal. -/
def normalP (l : List Itm) : List Itm := normP (fullP l)
/-- One more item, behind those that are made. -/
def joinS (out : List Itm) (x : Itm) : List Itm := match out.getLast? with
  | some c => if joinB c x = true then out.dropLast ++ [{ c with text := c.text ++ x.text }] else out ++ [x]
  | none => out ++ [x]
theorem join_snoc (out : List Itm) (c x : Itm) : joinS (out ++ [c]) x = if joinB c x = true then out ++ [{ c with text := c.text ++ x.text }] else out ++ [c] ++ [x] := by
  unfold joinS
  simp
theorem fold_go : ∀ (l : List Itm) (out : List Itm) (c : Itm), l.foldl joinS (out ++ [c]) = out ++ goF c l
  | [], out, c => rfl
  | x :: l, out, c => by
    rw [List.foldl_cons, join_snoc, goF]
    split
    · exact fold_go l out _
    · rw [fold_go l (out ++ [c]) x]
      simp
theorem fold_norm (l : List Itm) : l.foldl joinS [] = normP l := by
  cases l with
  | nil => rfl
  | cons x l =>
    have := fold_go l [] x
    simpa [joinS, normP] using this
/-- Each item stands where one may, by the one ahead. -/
def standsN : Int → List Itm → Prop
  | _, [] => True
  | B, x :: l => 1 ≤ x.level ∧ x.level ≤ B ∧ standsN (x.level + if x.kind = 1 then 1 else 0) l
theorem stands_mono : ∀ {l : List Itm} {B C : Int}, standsN B l → B ≤ C → standsN C l
  | [], _, _, _, _ => trivial
  | _ :: _, _, _, h, hb => ⟨h.1, by have := h.2.1; omega, h.2.2⟩
theorem stands_full : ∀ {l : List Itm} {B : Int}, standsN B l → standsN B (fullP l)
  | [], _, _ => trivial
  | x :: l, B, h => by
    have ih := stands_full h.2.2
    unfold fullP at *
    rw [List.filter_cons]
    split
    · exact ⟨h.1, h.2.1, ih⟩
    · rename_i he
      have hk : x.kind = 2 := by
        unfold emptyT at he
        simp at he
        exact he.1
      refine stands_mono ih ?_
      rw [hk]
      have := h.2.1
      simp
      omega
theorem go_chain : ∀ (l : List Itm) (c : Itm) (prev : Option Itm), standsB prev c = true → (∀ p, prev = some p → ¬ (p.kind = 2 ∧ c.kind = 2 ∧ p.level = c.level)) → standsN (c.level + if c.kind = 1 then 1 else 0) l → chainF prev (goF c l)
  | [], c, prev, h1, h2, _ => ⟨h1, h2, trivial⟩
  | x :: l, c, prev, h1, h2, h3 => by
    unfold goF
    split
    · rename_i hj
      unfold joinB at hj
      simp only [decide_eq_true_eq] at hj
      refine go_chain l _ prev h1 h2 ?_
      have := h3.2.2
      rw [hj.1] at this
      simp only
      rw [hj.2.1, hj.2.2]
      exact this
    · rename_i hj
      refine ⟨h1, h2, go_chain l x (some c) ?_ ?_ h3.2.2⟩
      · unfold standsB
        simp only [Bool.and_eq_true, decide_eq_true_eq]
        exact ⟨h3.1, h3.2.1⟩
      · intro p hp q
        simp only [Option.some.injEq] at hp
        subst hp
        apply hj
        unfold joinB
        simp only [decide_eq_true_eq]
        exact ⟨q.2.1, q.1, q.2.2⟩
theorem go_len : ∀ (l : List Itm) (c : Itm), (goF c l).length ≤ l.length + 1
  | [], c => by simp [goF]
  | x :: l, c => by
    unfold goF
    split
    · have := go_len l { c with text := c.text ++ x.text }
      simp
      omega
    · have := go_len l x
      simp
      omega
theorem join_ok {c x : Itm} (hc : okI c) (hx : okI x) (hj : joinB c x = true) : okI { c with text := c.text ++ x.text } := by
  unfold joinB at hj
  simp only [decide_eq_true_eq] at hj
  rcases hc with ⟨k1, k2, k3, k4, k5⟩ | ⟨k1, _⟩
  · rcases hx with ⟨m1, m2, m3, m4, m5⟩ | ⟨m1, _⟩
    · refine Or.inl ⟨k1, k2, k3, ?_, ?_⟩
      · obtain ⟨a, ha⟩ : ∃ a, chars c.text.data.toList = some a := by
          unfold countZ at k4
          cases h : chars c.text.data.toList with
          | none => rw [h] at k4; simp at k4
          | some a => exact ⟨a, rfl⟩
        obtain ⟨b, hb⟩ : ∃ b, chars x.text.data.toList = some b := by
          unfold countZ at m4
          cases h : chars x.text.data.toList with
          | none => rw [h] at m4; simp at m4
          | some a => exact ⟨a, rfl⟩
        refine count_of (ys := a ++ b) ?_
        show chars (c.text ++ x.text).data.toList = some (a ++ b)
        rw [app_list]
        exact chars_append _ _ _ _ _ (Nat.le_refl _) ha hb
      · intro q
        have q2 := congrArg ByteArray.size q
        rw [show (c.text ++ x.text).size = c.text.size + x.text.size from app_size _ _] at q2
        have z : noB.size = 0 := rfl
        have : c.text.size = 0 := by omega
        exact k5 (bytes_one (List.eq_nil_of_length_eq_zero (by simpa using this)))
    · omega
  · omega
theorem go_ok : ∀ (l : List Itm) (c : Itm), okI c ∧ c.level < 40 → (∀ x ∈ l, okI x ∧ x.level < 40) → ∀ y ∈ goF c l, okI y ∧ y.level < 40
  | [], c, hc, _, y, hy => by
    unfold goF at hy
    simp only [List.mem_singleton] at hy
    rw [hy]; exact hc
  | x :: l, c, hc, hl, y, hy => by
    unfold goF at hy
    split at hy
    · rename_i hj
      exact go_ok l _ ⟨join_ok hc.1 (hl x (List.mem_cons_self ..)).1 hj, hc.2⟩ (fun z hz => hl z (List.mem_cons_of_mem _ hz)) y hy
    · rcases List.mem_cons.1 hy with q | q
      · rw [q]; exact hc
      · exact go_ok l x (hl x (List.mem_cons_self ..)) (fun z hz => hl z (List.mem_cons_of_mem _ hz)) y q
theorem rise_conv : ∀ (l : List Attr) (p : ByteArray), riseF p l = true → (∀ a ∈ l, nameP a.1 = true ∧ ltB p a.1 = true) ∧ Rise l ∧ Apart l
  | [], _, _ => ⟨by simp, trivial, trivial⟩
  | a :: l, p, h => by
    unfold riseF at h
    simp only [Bool.and_eq_true] at h
    obtain ⟨i1, i2, i3⟩ := rise_conv l a.1 h.2
    refine ⟨?_, ⟨fun x hx => (i1 x hx).2, i2⟩, ⟨fun x hx q => ?_, i3⟩⟩
    · intro x hx
      rcases List.mem_cons.1 hx with q | q
      · rw [q]; exact ⟨h.1.1, h.1.2⟩
      · exact ⟨(i1 x q).1, lt_tr h.1.2 (i1 x q).2⟩
    · have := (i1 x hx).2
      rw [q, lt_irr] at this
      cases this
theorem unfit_ok {b : ByteArray} (h : unfitE b = 0) : ¬ countZ b.data.toList < 0 ∧ b.size ≤ 1500 := by
  unfold unfitE at h
  split at h
  · simp at h
  · split at h
    · simp at h
    · exact ⟨by assumption, by omega⟩
theorem vals_ok : ∀ (l : List Attr), valsE l = 0 → ∀ a ∈ l, unfitE a.2 = 0
  | [], _, _, ha => by cases ha
  | b :: l, h, a, ha => by
    unfold valsE at h
    split at h
    · rename_i q; exact absurd h q
    · rename_i q
      have q' : unfitE b.2 = 0 := by simpa using q
      rcases List.mem_cons.1 ha with r | r
      · rw [r]; exact q'
      · exact vals_ok l h a r
/-- An item whose parts may be is a text without a byte, or may be printed. -/
theorem parts_okI {x : Itm} (h : partsE x = 0) : emptyT x = true ∨ okI x := by
  unfold partsE at h
  split at h
  · rename_i hk
    split at h
    · simp at h
    · rename_i hn
      have hn1 : x.name = noB := by by_cases q : x.name = noB; exact q; exact absurd (Or.inl q) hn
      have hn2 : x.attrs = [] := by by_cases q : x.attrs = []; exact q; exact absurd (Or.inr q) hn
      by_cases ht : x.text = noB
      · exact Or.inl (by unfold emptyT; simp [hk, ht])
      · exact Or.inr (Or.inl ⟨hk, hn1, hn2, (unfit_ok h).1, ht⟩)
  · split at h
    · simp at h
    · rename_i hk hn
      have hn1 : x.kind = 1 := by by_cases q : x.kind = 1; exact q; exact absurd (Or.inl q) hn
      have hn2 : x.text = noB := by by_cases q : x.text = noB; exact q; exact absurd (Or.inr q) hn
      split at h
      · simp at h
      · rename_i hm
        have m1 : nameP x.name = true := by cases q : nameP x.name; exact absurd (Or.inl q) hm; rfl
        have m2 : riseF noB x.attrs = true := by cases q : riseF noB x.attrs; exact absurd (Or.inr q) hm; rfl
        split at h
        · simp at h
        · obtain ⟨r1, r2, r3⟩ := rise_conv _ _ m2
          refine Or.inr (Or.inr ⟨hn1, hn2, m1, by omega, fun a ha => ?_, r2, r3⟩)
          have u := unfit_ok (vals_ok _ h a ha)
          exact ⟨(r1 a ha).1, u.1, u.2⟩
theorem check_stands : ∀ (l : List Itm) (p : Itm) (k : Nat), checkF (some p) k l = (0, 0) → standsN (p.level + if p.kind = 1 then 1 else 0) l ∧ (∀ x ∈ l, (emptyT x = true ∨ okI x) ∧ x.level < 40) ∧ (l ≠ [] → k + l.length ≤ 1000)
  | [], _, _, _ => ⟨trivial, by simp, by simp⟩
  | x :: l, p, k, h => by
    have hi : itemE (some p) k x = 0 := by
      unfold checkF at h
      split at h
      · rename_i q
        simp only [Prod.mk.injEq] at h
        exact absurd h.2 q
      · rename_i q; simpa using q
    have hr : checkF (some x) (k + 1) l = (0, 0) := by
      unfold checkF at h
      rwa [if_neg (by simp [hi])] at h
    obtain ⟨i1, i2, i3⟩ := check_stands l x (k + 1) hr
    obtain ⟨o1, o2, o3, o4⟩ := item_ok hi
    unfold standsB at o1
    simp only [Bool.and_eq_true, decide_eq_true_eq] at o1
    refine ⟨⟨o1.1, o1.2, i1⟩, ?_, fun _ => ?_⟩
    · intro y hy
      rcases List.mem_cons.1 hy with q | q
      · rw [q]; exact ⟨parts_okI o4, o2⟩
      · exact i2 y q
    · by_cases q : l = []
      · rw [q]; simp; omega
      · have := i3 q; simp; omega
/-- A document, made normal, stands as one. -/
theorem doc_normal {l : List Itm} (h : checkP l = (0, 0)) : chainF none (normalP l) ∧ (∀ x ∈ normalP l, okI x ∧ x.level < 40) ∧ (normalP l).length ≤ 1000 ∧ normalP l ≠ [] ∧ ∀ y, (normalP l).head? = some y → y.level = 0 := by
  cases l with
  | nil => simp [checkP] at h
  | cons x l =>
    have h' : checkF none 0 (x :: l) = (0, 0) := by
      unfold checkP at h
      rwa [if_neg (by simp)] at h
    have hi : itemE none 0 x = 0 := by
      unfold checkF at h'
      split at h'
      · rename_i q
        simp only [Prod.mk.injEq] at h'
        exact absurd h'.2 q
      · rename_i q; simpa using q
    have hr : checkF (some x) 1 l = (0, 0) := by
      unfold checkF at h'
      rwa [if_neg (by simp [hi])] at h'
    obtain ⟨i1, i2, i3⟩ := check_stands l x 1 hr
    obtain ⟨o1, o2, o3, o4⟩ := item_ok hi
    have hk : x.level = 0 ∧ x.kind = 1 := by
      unfold standsB at o1
      simpa using o1
    have he : emptyT x = false := by unfold emptyT; simp [hk.2]
    have hf : fullP (x :: l) = x :: fullP l := by unfold fullP; rw [List.filter_cons, if_pos (by simp [he])]
    have okx : okI x := by
      rcases parts_okI o4 with q | q
      · rw [he] at q; cases q
      · exact q
    have hok : ∀ y ∈ fullP l, okI y ∧ y.level < 40 := by
      intro y hy
      unfold fullP at hy
      obtain ⟨m1, m2⟩ := List.mem_filter.1 hy
      obtain ⟨q1, q2⟩ := i2 y m1
      rcases q1 with q | q
      · rw [q] at m2; cases m2
      · exact ⟨q, q2⟩
    have hl : (fullP l).length ≤ l.length := List.length_filter_le _ _
    have hl2 : l.length ≤ 999 := by
      by_cases q : l = []
      · rw [q]; simp
      · have := i3 q; omega
    have gl := go_len (fullP l) x
    unfold normalP
    rw [hf]
    show chainF none (goF x (fullP l)) ∧ _ ∧ _ ∧ _ ∧ _
    refine ⟨go_chain _ _ _ o1 (by simp) (stands_full i1), go_ok _ _ ⟨okx, o2⟩ hok, ?_, ?_, ?_⟩
    · show (goF x (fullP l)).length ≤ 1000
      omega
    · show goF x (fullP l) ≠ []
      cases hq : fullP l with
      | nil => simp [goF]
      | cons y r =>
        have : standsN (x.level + if x.kind = 1 then 1 else 0) (fullP l) := stands_full i1
        intro q
        have c := go_chain (fullP l) x none o1 (by simp) this
        have hne : joinB x y = false := by unfold joinB; simp [hk.2]
        rw [goF, if_neg (by rw [hne]; simp)] at q
        cases q
    · intro y hy
      have hy' : (goF x (fullP l)).head? = some y := hy
      cases hq : fullP l with
      | nil =>
        rw [hq] at hy'
        simp only [goF, List.head?_cons, Option.some.injEq] at hy'
        rw [← hy']; exact hk.1
      | cons z r =>
        have hne : joinB x z = false := by unfold joinB; simp [hk.2]
        rw [hq, goF, if_neg (by rw [hne]; simp)] at hy'
        simp only [List.head?_cons, Option.some.injEq] at hy'
        rw [← hy']; exact hk.1
/-- What is printed of a document is read as that, made normal; or a text of that is too long. -/
theorem print_back {l : List Itm} (h : checkP l = (0, 0)) : ((normalP l).any longB = false → parseP (bA (printF (normalP l) [])) = .ok (normalP l)) ∧ ((normalP l).any longB = true → ∃ q, parseP (bA (printF (normalP l) [])) = .error (q, 34)) := by
  obtain ⟨h1, h2, h3, h4, h5⟩ := doc_normal h
  obtain ⟨R, g1, g2, g3⟩ := print_goes (normalP l) none [] [] [] h1 h2 (by simpa using h3) (by simp) (by simp) (fun q => absurd q h4) (by simp) (fun y hy => by rw [h5 y hy]; simp)
  have g := g1 ((bA (printF (normalP l) [])).size + 1) (by simp)
  have e : parseP (bA (printF (normalP l) [])) = R := by
    unfold parseP
    simpa using g
  rw [e]
  exact ⟨fun q => by rw [g2 q]; simp, g3⟩
end S
end Go.Proofs.YtmgemdhpjibdiaaDoor
namespace Go.Proofs.YtmgemdhpjibdiaaDoor
namespace S
open P L G E
/-- No item is one with the one ahead of it. -/
def noJ : Option Itm → List Itm → Prop
  | _, [] => True
  | prev, x :: l => (∀ p, prev = some p → joinB p x = false) ∧ noJ (some x) l
theorem go_self : ∀ (l : List Itm) (c : Itm), noJ (some c) l → goF c l = c :: l
  | [], _, _ => rfl
  | x :: l, c, h => by
    unfold goF
    rw [if_neg (by rw [h.1 c rfl]; simp), go_self l x h.2]
theorem join_text {c : Itm} {t : ByteArray} {x : Itm} : joinB { c with text := t } x = joinB c x := rfl
theorem go_noJ : ∀ (l : List Itm) (c : Itm) (prev : Option Itm), (∀ p, prev = some p → joinB p c = false) → noJ prev (goF c l)
  | [], c, prev, h => ⟨h, trivial⟩
  | x :: l, c, prev, h => by
    unfold goF
    split
    · exact go_noJ l _ prev h
    · rename_i hj
      refine ⟨h, go_noJ l x (some c) ?_⟩
      intro p hp
      simp only [Option.some.injEq] at hp
      subst hp
      cases q : joinB c x
      · rfl
      · exact absurd q hj
theorem go_full : ∀ (l : List Itm) (c : Itm), emptyT c = false → (∀ x ∈ l, emptyT x = false) → ∀ y ∈ goF c l, emptyT y = false
  | [], c, hc, _, y, hy => by
    unfold goF at hy
    simp only [List.mem_singleton] at hy
    rw [hy]; exact hc
  | x :: l, c, hc, hl, y, hy => by
    unfold goF at hy
    split at hy
    · rename_i hj
      refine go_full l _ ?_ (fun z hz => hl z (List.mem_cons_of_mem _ hz)) y hy
      unfold joinB at hj
      simp only [decide_eq_true_eq] at hj
      unfold emptyT at hc ⊢
      rw [hj.2.1] at hc
      simp only [decide_true, Bool.true_and, decide_eq_false_iff_not] at hc
      simp only [hj.2.1, decide_true, Bool.true_and, decide_eq_false_iff_not]
      intro q
      have q2 := congrArg ByteArray.size q
      rw [show (c.text ++ x.text).size = c.text.size + x.text.size from app_size _ _] at q2
      have z : noB.size = 0 := rfl
      have : c.text.size = 0 := by omega
      exact hc (bytes_one (List.eq_nil_of_length_eq_zero (by simpa using this)))
    · rcases List.mem_cons.1 hy with q | q
      · rw [q]; exact hc
      · exact go_full l x (hl x (List.mem_cons_self ..)) (fun z hz => hl z (List.mem_cons_of_mem _ hz)) y q
theorem full_self {l : List Itm} (h : ∀ x ∈ l, emptyT x = false) : fullP l = l := by
  unfold fullP
  rw [List.filter_eq_self]
  intro x hx
  simp [h x hx]
theorem norm_self {l : List Itm} (h : noJ none l) : normP l = l := by
  cases l with
  | nil => rfl
  | cons x l => exact go_self l x h.2
theorem normal_self {l : List Itm} (h1 : ∀ x ∈ l, emptyT x = false) (h2 : noJ none l) : normalP l = l := by
  unfold normalP
  rw [full_self h1, norm_self h2]
theorem normal_parts (l : List Itm) : (∀ x ∈ normalP l, emptyT x = false) ∧ noJ none (normalP l) := by
  have hf : ∀ x ∈ fullP l, emptyT x = false := by
    intro x hx
    unfold fullP at hx
    have := (List.mem_filter.1 hx).2
    simpa using this
  unfold normalP
  cases hq : fullP l with
  | nil => exact ⟨by simp [normP], trivial⟩
  | cons x r =>
    rw [hq] at hf
    exact ⟨go_full r x (hf x (List.mem_cons_self ..)) (fun z hz => hf z (List.mem_cons_of_mem _ hz)), go_noJ r x none (by simp)⟩
/-- What is normal is made normal as it is. -/
theorem normal_once (l : List Itm) : normalP (normalP l) = normalP l := normal_self (normal_parts l).1 (normal_parts l).2
theorem noJ_snoc : ∀ (l : List Itm) (prev : Option Itm) (x : Itm), noJ prev l → (∀ p, (match l.getLast? with | some y => some y | none => prev) = some p → joinB p x = false) → noJ prev (l ++ [x])
  | [], prev, x, _, h => ⟨by simpa using h, trivial⟩
  | a :: l, prev, x, h, hx => by
    refine ⟨h.1, noJ_snoc l (some a) x h.2 ?_⟩
    intro p hp
    apply hx p
    cases l with
    | nil => simpa using hp
    | cons b r =>
      rw [List.getLast?_cons_cons]
      cases hq : (b :: r).getLast? with
      | none => simp at hq
      | some y => rw [hq] at hp; exact hp
/-- What the items are, and what is open, while a text is read. -/
structure Now (s : ByteArray) (i : Nat) (its : List Itm) (op : List ByteArray) : Prop where
  full : ∀ x ∈ its, emptyT x = false
  apart : noJ none its
  top : ∀ y, its.getLast? = some y → y.kind = 2 → (op.length : Int) ≤ y.level ∧ (y.level = (op.length : Int) → i < s.size → thereB s i [60] = true)
theorem now_take {s : ByteArray} {i n : Nat} {its its' : List Itm} {op op' : List ByteArray} {t : Tok} (hi : i < s.size) (h : Now s i its op) (ho : oneN s i = .ok (t, n)) (ht : takeP its op t = .ok (its', op')) : Now s n its' op' := by
  obtain ⟨may, _, hne⟩ := one_may hi ho
  unfold takeP at ht
  split at ht
  · split at ht
    · rename_i hcl
      simp only [Except.ok.injEq, Prod.mk.injEq] at ht
      obtain ⟨rfl, rfl⟩ := ht
      have hop : op ≠ [] := by
        rintro rfl
        simp [closesB] at hcl
      have hl : op.dropLast.length = op.length - 1 := List.length_dropLast
      have hp := List.length_pos_iff.2 hop
      refine ⟨h.full, h.apart, fun y hy hk => ?_⟩
      have := (h.top y hy hk).1
      rw [hl]
      exact ⟨by omega, by omega⟩
    · cases ht
  · rename_i hk2
    split at ht
    · cases ht
    · simp only [Except.ok.injEq, Prod.mk.injEq] at ht
      obtain ⟨rfl, rfl⟩ := ht
      have kd : t.kind = 4 ∨ t.kind ≠ 4 := by omega
      rcases kd with kd | kd
      · have hit : itemOf op.length t = ⟨op.length, 2, noB, t.text, []⟩ := by unfold itemOf; rw [if_pos kd]
        rw [hit, if_neg (by omega)]
        refine ⟨?_, ?_, ?_⟩
        · intro x hx
          rcases List.mem_append.1 hx with q | q
          · exact h.full x q
          · simp only [List.mem_singleton] at q
            rw [q]
            unfold emptyT
            simp only [decide_true, Bool.true_and, decide_eq_false_iff_not]
            intro e
            exact hne kd (by rw [e]; rfl)
        · refine noJ_snoc its none _ h.apart ?_
          intro p hp
          have hp' : its.getLast? = some p := by
            cases hq : its.getLast? with
            | none => rw [hq] at hp; cases hp
            | some y => rw [hq] at hp; exact hp
          cases hj : joinB p ⟨op.length, 2, noB, t.text, []⟩ with
          | false => rfl
          | true =>
            unfold joinB at hj
            simp only [decide_eq_true_eq] at hj
            have := (h.top p hp' hj.2.1).2 hj.2.2 hi
            exact absurd kd (tag_kind ho this)
        · intro y hy _
          rw [List.getLast?_concat] at hy
          simp only [Option.some.injEq] at hy
          rw [← hy]
          exact ⟨by simp, fun _ hn => text_stop ho kd hn⟩
      · have hit : itemOf op.length t = ⟨op.length, 1, t.name, noB, t.attrs⟩ := by unfold itemOf; rw [if_neg kd]
        rw [hit]
        refine ⟨?_, ?_, ?_⟩
        · intro x hx
          rcases List.mem_append.1 hx with q | q
          · exact h.full x q
          · simp only [List.mem_singleton] at q
            rw [q]
            rfl
        · refine noJ_snoc its none _ h.apart ?_
          intro p _
          unfold joinB
          simp
        · intro y hy hk
          rw [List.getLast?_concat] at hy
          simp only [Option.some.injEq] at hy
          rw [← hy] at hk
          simp at hk
theorem now_parse (s : ByteArray) : ∀ (f i : Nat) (its l : List Itm) (op : List ByteArray), Now s i its op → parseF f s i its op = .ok l → (s.size - i < f) → (∀ x ∈ l, emptyT x = false) ∧ noJ none l
  | 0, _, _, _, _, _, _, hf => by omega
  | f + 1, i, its, l, op, hw, h, hf => by
    by_cases hi : i < s.size
    · unfold parseF at h
      rw [if_neg (by omega)] at h
      cases ho : oneN s i with
      | error e => rw [ho] at h; cases h
      | ok p =>
        obtain ⟨t, n⟩ := p
        rw [ho] at h
        simp only at h
        cases ht : takeP its op t with
        | error e => rw [ht] at h; cases h
        | ok q =>
          obtain ⟨its', op'⟩ := q
          rw [ht] at h
          have hg := one_go hi ho
          exact now_parse s f n its' l op' (now_take hi hw ho ht) h (by omega)
    · rw [parse_end (by omega) (by omega)] at h
      split at h
      · cases h
      · split at h
        · cases h
        · simp only [Except.ok.injEq] at h
          subst h
          exact ⟨hw.full, hw.apart⟩
/-- What was read is normal. -/
theorem parse_normal {s : ByteArray} {l : List Itm} (h : parseP s = .ok l) : normalP l = l := by
  have := now_parse s (s.size + 1) 0 [] l [] ⟨by simp, trivial, by simp⟩ h (by omega)
  exact normal_self this.1 this.2
theorem short_of {l : List Itm} (h : checkP l = (0, 0)) : l.any longB = false := by
  rw [List.any_eq_false]
  intro x hx
  have key : ∀ (l : List Itm) (prev : Option Itm) (k : Nat), checkF prev k l = (0, 0) → ∀ x ∈ l, partsE x = 0 := by
    intro l
    induction l with
    | nil => intro _ _ _ x hx; cases hx
    | cons y r ih =>
      intro prev k h x hx
      have hi : itemE prev k y = 0 := by
        unfold checkF at h
        split at h
        · rename_i q
          simp only [Prod.mk.injEq] at h
          exact absurd h.2 q
        · rename_i q; simpa using q
      have hr : checkF (some y) (k + 1) r = (0, 0) := by
        unfold checkF at h
        rwa [if_neg (by simp [hi])] at h
      rcases List.mem_cons.1 hx with q | q
      · rw [q]; exact (item_ok hi).2.2.2
      · exact ih _ _ hr x q
  have hp : partsE x = 0 := by
    unfold checkP at h
    split at h
    · simp at h
    · exact key l none 0 h x hx
  have : x.text.size ≤ 1500 := by
    unfold partsE at hp
    split at hp
    · split at hp
      · simp at hp
      · exact (unfit_ok hp).2
    · split at hp
      · simp at hp
      · rename_i hn
        have hn2 : x.text = noB := by by_cases q : x.text = noB; exact q; exact absurd (Or.inr q) hn
        rw [hn2]
        decide
  unfold longB
  simp
  omega
/-- A normal document is read out of its print. -/
theorem print_self {l : List Itm} (h : checkP l = (0, 0)) (hn : normalP l = l) : parseP (bA (printF l [])) = .ok l := by
  have := (print_back h).1
  rw [hn] at this
  exact this (short_of h)
/-- Normal documents that are printed alike are the same. -/
theorem print_inj {l m : List Itm} (hl : checkP l = (0, 0)) (hm : checkP m = (0, 0)) (nl : normalP l = l) (nm : normalP m = m) (h : printF l [] = printF m []) : l = m := by
  have a := print_self hl nl
  have b := print_self hm nm
  rw [h, b] at a
  simp only [Except.ok.injEq] at a
  exact a.symm
end S
end Go.Proofs.YtmgemdhpjibdiaaDoor
namespace Go.Proofs.YtmgemdhpjibdiaaDoor
namespace S
open P L G E
def texts (l : List Itm) : List UInt8 := l.flatMap fun x => x.text.data.toList
/-- How many items, from the first on, are one with it. -/
def runL : List Itm → Nat
  | [] => 0
  | x :: l => 1 + (l.takeWhile (joinB x)).length
/-- The one that items are together. -/
def oneL : List Itm → Itm
  | [] => ⟨0, 0, noB, noB, []⟩
  | x :: l => { x with text := bA (texts (x :: l)) }
theorem join_with (c : Itm) (t : ByteArray) : joinB { c with text := t } = joinB c := rfl
theorem go_run : ∀ (l : List Itm) (c : Itm), goF c l = { c with text := bA (c.text.data.toList ++ texts (l.takeWhile (joinB c))) } :: normP (l.dropWhile (joinB c))
  | [], c => by
    simp only [goF, List.takeWhile_nil, List.dropWhile_nil, normP, texts, List.flatMap_nil, List.append_nil, bA_self]
  | x :: l, c => by
    rw [goF]
    by_cases h : joinB c x = true
    · rw [if_pos h, go_run l, join_with, List.takeWhile_cons, if_pos h, List.dropWhile_cons, if_pos h]
      simp only [texts, List.flatMap_cons]
      rw [app_list, List.append_assoc]
    · rw [if_neg h, List.takeWhile_cons, if_neg h, List.dropWhile_cons, if_neg h]
      simp only [texts, List.flatMap_nil, List.append_nil, bA_self, normP]
theorem run_pos {l : List Itm} (h : l ≠ []) : 1 ≤ runL l := by
  cases l with
  | nil => exact absurd rfl h
  | cons x l => simp only [runL]; omega
theorem take_pre {α : Type} (p : α → Bool) : ∀ (l : List α), l.take (l.takeWhile p).length = l.takeWhile p ∧ l.drop (l.takeWhile p).length = l.dropWhile p
  | [] => ⟨rfl, rfl⟩
  | x :: l => by
    rw [List.takeWhile_cons, List.dropWhile_cons]
    split
    · obtain ⟨h1, h2⟩ := take_pre p l
      exact ⟨by simp [h1], by simpa using h2⟩
    · exact ⟨rfl, rfl⟩
theorem run_le (l : List Itm) : runL l ≤ l.length := by
  cases l with
  | nil => exact Nat.le_refl _
  | cons x l =>
    have := (List.takeWhile_sublist (joinB x) (l := l)).length_le
    simp only [runL, List.length_cons]
    omega
/-- One piece, and the rest. -/
theorem norm_step {l : List Itm} (h : l ≠ []) : normP l = oneL (l.take (runL l)) :: normP (l.drop (runL l)) := by
  cases l with
  | nil => exact absurd rfl h
  | cons x l =>
    obtain ⟨h1, h2⟩ := take_pre (joinB x) l
    rw [normP, go_run, runL, Nat.add_comm, List.take_succ_cons, List.drop_succ_cons, h1, h2]
    rfl
theorem run_in {x : Itm} {l : List Itm} : ∀ j (h : j < l.length), j < (l.takeWhile (joinB x)).length → joinB x l[j] = true := by
  induction l with
  | nil => intro j h; simp at h
  | cons y l ih =>
    intro j h hj
    rw [List.takeWhile_cons] at hj
    split at hj
    · cases j with
      | zero => assumption
      | succ j => exact ih j (by simpa using h) (by simpa using hj)
    · simp at hj
/-- The run ends at a place that the ones ahead reach. -/
theorem runL_at {l : List Itm} {q : Nat} (h1 : 1 ≤ q) (h2 : q ≤ l.length) (h3 : ∀ j (h : j < l.length) (h0 : 0 < l.length), 1 ≤ j → j < q → joinB l[0] l[j] = true) (h4 : ∀ (h : q < l.length) (h0 : 0 < l.length), joinB l[0] l[q] = false) : runL l = q := by
  cases l with
  | nil => simp at h2; omega
  | cons x l =>
    have key : ∀ (m : List Itm) (q : Nat), q ≤ m.length → (∀ j (h : j < m.length), j < q → joinB x m[j] = true) → (∀ h : q < m.length, joinB x m[q] = false) → (m.takeWhile (joinB x)).length = q := by
      intro m
      induction m with
      | nil => intro q hq _ _; simp at hq; simp [hq]
      | cons y m ih =>
        intro q hq a b
        cases q with
        | zero =>
          have := b (by simp)
          simp only [List.getElem_cons_zero] at this
          rw [List.takeWhile_cons, if_neg (by rw [this]; decide)]
          rfl
        | succ q =>
          have := a 0 (by simp) (by omega)
          simp only [List.getElem_cons_zero] at this
          rw [List.takeWhile_cons, if_pos this, List.length_cons, ih q (by simpa using hq) (fun j h hj => a (j + 1) (by simpa using h) (by omega)) (fun h => b (by simpa using h))]
    obtain ⟨q, rfl⟩ : ∃ p, q = p + 1 := ⟨q - 1, by omega⟩
    rw [runL, key l q (by simpa using h2) (fun j h hj => h3 (j + 1) (by simpa using h) (by simp) (by omega) (by omega)) (fun h => h4 (by simpa using h) (by simp)), Nat.add_comm]
theorem texts_app (l m : List Itm) : texts (l ++ m) = texts l ++ texts m := by simp [texts]
theorem texts_take_le (l : List Itm) (q : Nat) : (texts (l.take q)).length ≤ (texts l).length := by
  conv => rhs; rw [← List.take_append_drop q l, texts_app, List.length_append]
  omega
theorem texts_drop_le (l : List Itm) (q : Nat) : (texts (l.drop q)).length ≤ (texts l).length := by
  conv => rhs; rw [← List.take_append_drop q l, texts_app, List.length_append]
  omega
theorem texts_filter_le (p : Itm → Bool) : ∀ (l : List Itm), (texts (l.filter p)).length ≤ (texts l).length
  | [] => Nat.le_refl _
  | x :: l => by
    have := texts_filter_le p l
    rw [List.filter_cons]
    split <;> simp only [texts, List.flatMap_cons, List.length_append] at * <;> omega
theorem texts_mem : ∀ {l : List Itm} {x : Itm}, x ∈ l → x.text.size ≤ (texts l).length
  | [], _, h => by simp at h
  | y :: l, x, h => by
    simp only [texts, List.flatMap_cons, List.length_append, Array.length_toList, ByteArray.size_data]
    rcases List.mem_cons.1 h with rfl | h
    · omega
    · have := texts_mem h
      simp only [texts] at this
      omega
end S
end Go.Proofs.YtmgemdhpjibdiaaDoor
