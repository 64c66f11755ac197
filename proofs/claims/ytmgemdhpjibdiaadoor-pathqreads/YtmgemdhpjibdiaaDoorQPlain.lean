/- Plain mathematics for layer pathq: queries over a text and a place in it; how they are written; that what is written is read. No program is spoken of here. -/
import Derived.Test.YtmgemdhpjibdiaaDoorS1
namespace Go.Proofs.YtmgemdhpjibdiaaDoor
namespace Q
open L G E S
structure Pred where
  kind : Int
  num : Int
  name : ByteArray
  value : ByteArray
structure Step where
  axis : Int
  test : Int
  name : ByteArray
  preds : List Pred
/-- How many bytes the characters take of which names may be made. -/
def nameF : Nat → List UInt8 → Nat
  | 0, _ => 0
  | f + 1, l => if l = [] ∨ (nextL l).2 = 0 ∨ partB (nextL l).1 = false then 0 else (nextL l).2 + nameF f (l.drop (nextL l).2)
def nameEnd (q : ByteArray) (i : Nat) : Nat := i + nameF (q.size + 1) (q.data.toList.drop i)
def valueQ (q : ByteArray) (i : Nat) : Except Bad (ByteArray × Nat) :=
  let to := runP (notB 34) q (i + 1)
  let u := undoB true (q.extract (i + 1) to)
  if thereB q i [34] = false then .error ((i : Int), 70)
  else if q.size ≤ to then .error ((to : Int), 70)
  else if u.2.2 ≠ 0 then .error (((i + 1 + u.2.1 : Nat) : Int), u.2.2)
  else .ok (u.1, to + 1)
def digitB (c : UInt8) : Bool := decide (48 ≤ c.toNat) && decide (c.toNat ≤ 57)
def numL (l : List UInt8) : Int := l.foldl (fun a c => a * 10 + ((c.toNat : Int) - 48)) 0
def numberQ (q : ByteArray) (i : Nat) : Except Bad (Pred × Nat) :=
  let to := runP digitB q i
  if to = i ∨ 4 < to - i ∨ thereB q i [48] = true then .error ((i : Int), 70)
  else .ok (⟨1, numL (q.extract i to).data.toList, noB, noB⟩, to)
def lastW : List UInt8 := [108, 97, 115, 116, 40, 41]
def textW : List UInt8 := [116, 101, 120, 116, 40, 41]
def nodeW : List UInt8 := [110, 111, 100, 101, 40, 41]
/-- A predicate behind its bracket. -/
def predQ (q : ByteArray) (i : Nat) : Except Bad (Pred × Nat) :=
  if thereB q i lastW = true then .ok (⟨2, 0, noB, noB⟩, i + 6)
  else if thereB q i textW = true then
    (if thereB q (i + 6) [61] = false then .error (((i + 6 : Nat) : Int), 70)
     else match valueQ q (i + 7) with
       | .error e => .error e
       | .ok (v, n) => .ok (⟨5, 0, noB, v⟩, n))
  else if thereB q i [64] = false then numberQ q i
  else
    let to := nameEnd q (i + 1)
    let nm := q.extract (i + 1) to
    if nameP nm = false then .error (((i + 1 : Nat) : Int), 70)
    else if thereB q to [61] = false then .ok (⟨3, 0, nm, noB⟩, to)
    else match valueQ q (to + 1) with
      | .error e => .error e
      | .ok (v, n) => .ok (⟨4, 0, nm, v⟩, n)
def predsF : Nat → ByteArray → Nat → List Pred → Except Bad (List Pred × Nat)
  | 0, _, i, acc => .ok (acc, i)
  | f + 1, q, i, acc =>
    if thereB q i [91] = false then .ok (acc, i)
    else if acc.length = 5 then .error ((i : Int), 70)
    else match predQ q (i + 1) with
      | .error e => .error e
      | .ok (p, n) => if thereB q n [93] = false then .error ((n : Int), 70) else predsF f q (n + 1) (acc ++ [p])
def predsQ (q : ByteArray) (i : Nat) (s : Step) : Except Bad (Step × Nat) := match predsF 6 q i [] with
  | .error e => .error e
  | .ok (l, n) => .ok ({ s with preds := l }, n)
def testedQ (q : ByteArray) (i : Nat) (ax : Int) : Except Bad (Step × Nat) :=
  if thereB q i [42] = true then predsQ q (i + 1) ⟨ax, 2, noB, []⟩
  else if thereB q i textW = true then predsQ q (i + 6) ⟨ax, 3, noB, []⟩
  else if thereB q i nodeW = true then predsQ q (i + 6) ⟨ax, 4, noB, []⟩
  else
    let to := nameEnd q i
    let nm := q.extract i to
    if nameP nm = false then .error ((i : Int), 70) else predsQ q to ⟨ax, 1, nm, []⟩
/-- The axes, with their numbers. -/
def axes : List (Int × List UInt8) := [
  (1, [99, 104, 105, 108, 100, 58, 58]),
  (2, [100, 101, 115, 99, 101, 110, 100, 97, 110, 116, 58, 58]),
  (3, [100, 101, 115, 99, 101, 110, 100, 97, 110, 116, 45, 111, 114, 45, 115, 101, 108, 102, 58, 58]),
  (4, [112, 97, 114, 101, 110, 116, 58, 58]),
  (5, [97, 110, 99, 101, 115, 116, 111, 114, 58, 58]),
  (6, [102, 111, 108, 108, 111, 119, 105, 110, 103, 45, 115, 105, 98, 108, 105, 110, 103, 58, 58]),
  (7, [112, 114, 101, 99, 101, 100, 105, 110, 103, 45, 115, 105, 98, 108, 105, 110, 103, 58, 58]),
  (8, [115, 101, 108, 102, 58, 58])]
def axisF (q : ByteArray) (i : Nat) : List (Int × List UInt8) → Int × Nat
  | [] => (1, i)
  | a :: l => if thereB q i a.2 = true then (a.1, i + a.2.length) else axisF q i l
def stepQ (q : ByteArray) (i : Nat) : Except Bad (Step × Nat) :=
  if thereB q i [46, 46] = true then .ok (⟨4, 4, noB, []⟩, i + 2)
  else if thereB q i [46] = true then .ok (⟨8, 4, noB, []⟩, i + 1)
  else testedQ q (axisF q i axes).2 (axisF q i axes).1
def parseF : Nat → ByteArray → Nat → List Step → Except Bad (List Step)
  | 0, _, _, acc => .ok acc
  | f + 1, q, i, acc =>
    if q.size ≤ i ∧ acc ≠ [] then .ok acc
    else if thereB q i [47] = false then .error ((i : Int), 70)
    else
      let b := thereB q (i + 1) [47]
      let acc' := if b = true then acc ++ [⟨3, 4, noB, []⟩] else acc
      let from' := if b = true then i + 2 else i + 1
      if 20 ≤ acc'.length then .error ((i : Int), 70)
      else match stepQ q from' with
        | .error e => .error e
        | .ok (s, n) => parseF f q n (acc' ++ [s])
/-- A query's steps; or the place of what is amiss first, and how. -/
def parseP (q : ByteArray) : Except Bad (List Step) := if 200 < q.size then .error (0, 71) else parseF (q.size + 1) q 0 []
-- how they are written
def digitsF : Nat → Nat → List UInt8
  | 0, _ => []
  | f + 1, n => if n < 10 then [UInt8.ofNat (48 + n)] else digitsF f (n / 10) ++ [UInt8.ofNat (48 + n % 10)]
def digitsL (n : Int) : List UInt8 := digitsF 20 n.toNat
def evQ (v : ByteArray) : List UInt8 := (escL true v.data.toList).getD []
def predW (p : Pred) : List UInt8 :=
  if p.kind = 1 then digitsL p.num else if p.kind = 2 then lastW else if p.kind = 3 then [64] ++ p.name.data.toList
  else if p.kind = 4 then [64] ++ (p.name.data.toList ++ ([61, 34] ++ (evQ p.value ++ [34]))) else textW ++ ([61, 34] ++ (evQ p.value ++ [34]))
def predsW : List Pred → List UInt8
  | [] => []
  | p :: l => [91] ++ (predW p ++ ([93] ++ predsW l))
def axisW (a : Int) : List UInt8 := ((axes.find? fun x => decide (x.1 = a)).map (·.2)).getD []
def testW (t : Int) : List UInt8 := if t = 2 then [42] else if t = 3 then textW else if t = 4 then nodeW else []
def stepW (s : Step) : List UInt8 := axisW s.axis ++ (testW s.test ++ (s.name.data.toList ++ predsW s.preds))
def stepsW : List Step → List UInt8
  | [] => []
  | s :: l => [47] ++ (stepW s ++ stepsW l)
/-- May a predicate be? -/
def rightP (p : Pred) : Prop :=
  (p.kind = 1 ∧ 1 ≤ p.num ∧ p.num ≤ 9999 ∧ p.name = noB ∧ p.value = noB) ∨ (p.kind = 2 ∧ p.num = 0 ∧ p.name = noB ∧ p.value = noB) ∨ (p.kind = 3 ∧ p.num = 0 ∧ nameP p.name = true ∧ p.value = noB) ∨
  (p.kind = 4 ∧ p.num = 0 ∧ nameP p.name = true ∧ ¬ countZ p.value.data.toList < 0) ∨ (p.kind = 5 ∧ p.num = 0 ∧ p.name = noB ∧ ¬ countZ p.value.data.toList < 0)
def rightS (s : Step) : Prop := (1 ≤ s.axis ∧ s.axis ≤ 8) ∧ ((s.test = 1 ∧ nameP s.name = true) ∨ ((s.test = 2 ∨ s.test = 3 ∨ s.test = 4) ∧ s.name = noB)) ∧ s.preds.length ≤ 5 ∧ ∀ p ∈ s.preds, rightP p
-- where a name ends
theorem next_ascii {c : UInt8} {l : List UInt8} (hc : c.toNat < 128) (hh : charB (c.toNat : Int) = true) : nextL (c :: l) = ((c.toNat : Int), 1) := by
  have e : c :: l = putL (c.toNat : Int) ++ l := by
    unfold putL
    rw [put1 _ (by omega)]
    simp
  rw [e, put_next _ hh, put1 _ (by omega)]
  rfl
theorem name_stop {f : Nat} {l : List UInt8} (h : l = [] ∨ ∃ c r, l = c :: r ∧ (c = 91 ∨ c = 93 ∨ c = 61 ∨ c = 47)) : nameF f l = 0 := by
  cases f with
  | zero => rfl
  | succ f =>
    unfold nameF
    rcases h with h | ⟨c, r, rfl, hc⟩
    · rw [if_pos (Or.inl h)]
    · have hn : nextL (c :: r) = ((c.toNat : Int), 1) := by
        rcases hc with rfl | rfl | rfl | rfl <;> exact next_ascii (by decide) (by decide)
      rw [if_pos]
      refine Or.inr (Or.inr ?_)
      rw [hn]
      rcases hc with rfl | rfl | rfl | rfl <;> decide
theorem name_flat {post : List UInt8} (hp : post = [] ∨ ∃ c r, post = c :: r ∧ (c = 91 ∨ c = 93 ∨ c = 61 ∨ c = 47)) : ∀ (cs : List Int) (f : Nat), (∀ c ∈ cs, partB c = true) → (cs.flatMap putL).length + post.length < f → nameF f (cs.flatMap putL ++ post) = (cs.flatMap putL).length
  | [], f, _, _ => by simpa using name_stop hp
  | c :: cs, 0, _, h => by omega
  | c :: cs, f + 1, hc, h => by
    have hpc := hc c (List.mem_cons_self ..)
    have hn := put_next c (part_char c hpc) (cs.flatMap putL ++ post)
    have e : (c :: cs).flatMap putL ++ post = putL c ++ (cs.flatMap putL ++ post) := by simp
    have hl : (putN c).length = (putL c).length := by simp [putL]
    have hl1 := (putL_len c).1
    rw [e]
    unfold nameF
    rw [hn, if_neg]
    · simp only
      rw [hl, List.drop_left, name_flat hp cs f (fun z hz => hc z (List.mem_cons_of_mem _ hz)) (by rw [List.flatMap_cons, List.length_append] at h; omega)]
      simp
    · rintro (q | q | q)
      · have := congrArg List.length q
        rw [List.length_append, List.length_nil] at this
        omega
      · simp only at q; omega
      · simp only at q
        rw [hpc] at q
        cases q
theorem name_at {nm : ByteArray} {pre post : List UInt8} (h : nameP nm = true) (hp : post = [] ∨ ∃ c r, post = c :: r ∧ (c = 91 ∨ c = 93 ∨ c = 61 ∨ c = 47)) : nameEnd (bA (pre ++ (nm.data.toList ++ post))) pre.length = pre.length + nm.data.toList.length := by
  unfold nameEnd
  rw [bA_list, List.drop_left, bA_size]
  unfold nameP nameB at h
  simp only [Bool.and_eq_true] at h
  have hps := h.2
  unfold partsB at hps
  cases hc : chars nm.data.toList with
  | none => rw [hc] at hps; cases hps
  | some cs =>
    rw [hc] at hps
    have hf := (chars_flat _ _ _ (Nat.le_refl _) hc).1
    have := name_flat hp cs ((pre ++ (nm.data.toList ++ post)).length + 1) (fun z hz => List.all_eq_true.1 hps z hz) (by rw [hf]; simp; omega)
    rw [hf] at this
    rw [this]
-- what is written is read, piece by piece
theorem value_at {v : ByteArray} {pre post : List UInt8} (h : ¬ countZ v.data.toList < 0) : valueQ (bA (pre ++ ([34] ++ (evQ v ++ ([34] ++ post))))) pre.length = .ok (v, pre.length + 1 + (evQ v).length + 1) := by
  obtain ⟨m, hm⟩ := esc_some true h
  have em : evQ v = m := by unfold evQ; rw [hm]; rfl
  rw [em]
  have t1 : thereB (bA (pre ++ ([34] ++ (m ++ ([34] ++ post))))) pre.length [34] = true := there_at pre [34] _
  have r1 : runP (notB 34) (bA (pre ++ ([34] ++ (m ++ ([34] ++ post))))) (pre.length + 1) = pre.length + 1 + m.length := by
    have := run_at (p := notB 34) (pre ++ [34]) m ([34] ++ post) (fun c hc => by
      have := escL_plain _ _ hm c hc
      unfold plainB at this
      simp only [Bool.and_eq_true] at this
      exact this.1.1.1.2) (by simp [notB])
    simpa using this
  have e1 : (bA (pre ++ ([34] ++ (m ++ ([34] ++ post))))).extract (pre.length + 1) (pre.length + 1 + m.length) = bA m := by
    have := ext_at (pre ++ [34]) m ([34] ++ post)
    simpa using this
  have hu : undoB true (bA m) = (v, m.length, 0) := by
    unfold undoB
    rw [bA_list, back true _ _ hm]
  have hs : (bA (pre ++ ([34] ++ (m ++ ([34] ++ post))))).size = pre.length + 1 + m.length + 1 + post.length := by
    rw [bA_size]
    simp
    omega
  unfold valueQ
  simp only
  rw [r1, e1, hu, hs, if_neg (by rw [t1]; simp), if_neg (by omega), if_neg (by simp)]
theorem digits_ne (f n : Nat) (hf : n < 10 ^ f) (h0 : 0 < f) : digitsF f n ≠ [] := by
  cases f with
  | zero => omega
  | succ f =>
    unfold digitsF
    split <;> simp
theorem toNat_digit (d : Nat) (h : d < 10) : (UInt8.ofNat (48 + d)).toNat = 48 + d := by simp; omega
theorem digits_fold : ∀ (f n : Nat), n < 10 ^ f → numL (digitsF f n) = (n : Int)
  | 0, n, h => by simp at h; subst h; rfl
  | f + 1, n, h => by
    unfold digitsF
    split
    · rename_i h1
      unfold numL
      simp only [List.foldl_cons, List.foldl_nil, toNat_digit n h1]
      omega
    · have h2 : n / 10 < 10 ^ f := by rw [Nat.pow_succ] at h; omega
      have ih := digits_fold f (n / 10) h2
      unfold numL at ih ⊢
      rw [List.foldl_append, ih]
      simp only [List.foldl_cons, List.foldl_nil, toNat_digit (n % 10) (by omega)]
      omega
theorem digits_all : ∀ (f n : Nat), ∀ c ∈ digitsF f n, digitB c = true
  | 0, _, c, h => by cases h
  | f + 1, n, c, h => by
    unfold digitsF at h
    split at h
    · rename_i h1
      simp only [List.mem_singleton] at h
      rw [h]
      unfold digitB
      rw [toNat_digit n h1]
      simp
      omega
    · rcases List.mem_append.1 h with q | q
      · exact digits_all f _ c q
      · simp only [List.mem_singleton] at q
        rw [q]
        unfold digitB
        rw [toNat_digit (n % 10) (by omega)]
        simp
        omega
theorem digits_len : ∀ (k f n : Nat), k ≤ f → n < 10 ^ k → 0 < k → (digitsF f n).length ≤ k
  | 0, _, _, _, _, h => by omega
  | k + 1, 0, _, hf, _, _ => by omega
  | k + 1, f + 1, n, hf, h, _ => by
    unfold digitsF
    split
    · simp
    · rename_i h1
      have h2 : n / 10 < 10 ^ k := by rw [Nat.pow_succ] at h; omega
      have h3 : 0 < k := by
        cases k with
        | zero => simp at h; omega
        | succ k => omega
      have := digits_len k f (n / 10) (by omega) h2 h3
      simp
      omega
theorem digits_head : ∀ (f n : Nat), 0 < n → n < 10 ^ f → ∃ c r, digitsF f n = c :: r ∧ c ≠ 48
  | 0, n, h0, h => by simp at h; omega
  | f + 1, n, h0, h => by
    unfold digitsF
    split
    · rename_i h1
      refine ⟨_, _, rfl, fun q => ?_⟩
      have := congrArg UInt8.toNat q
      rw [toNat_digit n h1] at this
      simp at this
      omega
    · have h2 : n / 10 < 10 ^ f := by rw [Nat.pow_succ] at h; omega
      obtain ⟨c, r, e, hc⟩ := digits_head f (n / 10) (by omega) h2
      exact ⟨c, r ++ [UInt8.ofNat (48 + n % 10)], by rw [e]; rfl, hc⟩
theorem number_at {n : Int} {pre post : List UInt8} (h1 : 1 ≤ n) (h2 : n ≤ 9999) (hp : post.takeWhile digitB = []) : numberQ (bA (pre ++ (digitsL n ++ post))) pre.length = .ok (⟨1, n, noB, noB⟩, pre.length + (digitsL n).length) := by
  have hb : n.toNat < 10 ^ 4 := by omega
  have hb2 : n.toNat < 10 ^ 20 := by omega
  have r1 : runP digitB (bA (pre ++ (digitsL n ++ post))) pre.length = pre.length + (digitsL n).length := run_at pre (digitsL n) post (digits_all _ _) hp
  have e1 : (bA (pre ++ (digitsL n ++ post))).extract pre.length (pre.length + (digitsL n).length) = bA (digitsL n) := ext_at _ _ _
  obtain ⟨c, r, hc, hn⟩ := digits_head 20 n.toNat (by omega) hb2
  have hl := digits_len 4 20 n.toNat (by decide) hb (by decide)
  have hl0 : 0 < (digitsL n).length := by unfold digitsL; rw [hc]; simp
  have t1 : thereB (bA (pre ++ (digitsL n ++ post))) pre.length [48] = false := by
    apply there_not
    unfold digitsL
    rw [hc]
    simpa using hn
  unfold numberQ
  simp only
  rw [r1, e1, if_neg]
  · simp only [Except.ok.injEq, Prod.mk.injEq, Pred.mk.injEq, and_true, true_and]
    rw [bA_list]
    unfold digitsL
    rw [digits_fold 20 n.toNat hb2]
    omega
  · rintro (q | q | q)
    · omega
    · unfold digitsL at q; omega
    · rw [t1] at q; cases q
end Q
end Go.Proofs.YtmgemdhpjibdiaaDoor
