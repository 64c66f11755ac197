/- Plain mathematics for layer grove: where the next node is laid: who is above it is there. No program is spoken of here. -/
import Derived.Test.YtidccohjehegjaaDoorPPlainK
namespace Go.Proofs.YtidccohjehegjaaDoor
namespace T
open P
/-- Trees side by side: the first one's id, its item, what is in it, and the trees behind it. -/
structure N where
  id : Int
  x : Itm
  kids : Option N
  next : Option N
abbrev F := Option N
def atL (x : Itm) (n : Int) : Itm := { x with level := n }
abbrev Row := Int × Itm
/-- All nodes in order, those on top at a level. -/
def rows : F → Int → List Row
  | none, _ => []
  | some ⟨id, x, k, s⟩, n => (id, atL x n) :: (rows k (n + 1) ++ rows s n)
def ids : F → List Int
  | none => []
  | some ⟨id, _, k, s⟩ => id :: (ids k ++ ids s)
/-- The ids on top. -/
def tops : F → List Int
  | none => []
  | some ⟨id, _, _, s⟩ => id :: tops s
def app : F → F → F
  | none, g => g
  | some ⟨id, x, k, s⟩, g => some ⟨id, x, k, app s g⟩
/-- Trees put in ahead of the one at a place. -/
def insAt : F → Nat → F → F
  | f, 0, g => app g f
  | none, _ + 1, g => g
  | some ⟨id, x, k, s⟩, a + 1, g => some ⟨id, x, k, insAt s a g⟩
def takeN : F → Nat → F
  | _, 0 => none
  | none, _ + 1 => none
  | some ⟨id, x, k, s⟩, a + 1 => some ⟨id, x, k, takeN s a⟩
def dropN : F → Nat → F
  | f, 0 => f
  | none, _ + 1 => none
  | some ⟨_, _, _, s⟩, a + 1 => dropN s a
/-- Trees put in as kids of a node. -/
def ins : F → Int → Nat → F → F
  | none, _, _, _ => none
  | some ⟨id, x, k, s⟩, p, a, g => if id = p then some ⟨id, x, insAt k a g, s⟩ else some ⟨id, x, ins k p a g, ins s p a g⟩
/-- A node taken out, with all that is in it. -/
def del : F → Int → F
  | none, _ => none
  | some ⟨id, x, k, s⟩, d => if id = d then s else some ⟨id, x, del k d, del s d⟩
/-- A node's item turned. -/
def upd : F → Int → (Itm → Itm) → F
  | none, _, _ => none
  | some ⟨i, x, k, s⟩, id, h => if i = id then some ⟨i, h x, k, s⟩ else some ⟨i, x, upd k id h, upd s id h⟩
theorem rows_ids : ∀ (f : F) (n : Int), (rows f n).map (·.1) = ids f
  | none, _ => by simp [rows, ids]
  | some ⟨id, x, k, s⟩, n => by simp [rows, ids, rows_ids k, rows_ids s]
theorem rows_app : ∀ (f g : F) (n : Int), rows (app f g) n = rows f n ++ rows g n
  | none, _, _ => by simp [rows, app]
  | some ⟨id, x, k, s⟩, g, n => by simp [rows, app, rows_app s g n]
theorem app_assoc : ∀ (f g h : F), app (app f g) h = app f (app g h)
  | none, _, _ => by simp [app]
  | some ⟨id, x, k, s⟩, g, h => by simp [app, app_assoc s g h]
theorem app_nil : ∀ (f : F), app f none = f
  | none => by simp [app]
  | some ⟨id, x, k, s⟩ => by simp [app, app_nil s]
theorem take_drop : ∀ (f : F) (a : Nat), app (takeN f a) (dropN f a) = f
  | f, 0 => by cases f <;> simp [app, takeN, dropN]
  | none, _ + 1 => by simp [app, takeN, dropN]
  | some ⟨id, x, k, s⟩, a + 1 => by simp [takeN, dropN, app, take_drop s a]
theorem ins_at : ∀ (f : F) (a : Nat) (g : F), insAt f a g = app (takeN f a) (app g (dropN f a))
  | f, 0, g => by cases f <;> simp [app, insAt, takeN, dropN]
  | none, _ + 1, g => by simp [insAt, takeN, dropN, app, app_nil]
  | some ⟨id, x, k, s⟩, a + 1, g => by simp [insAt, takeN, dropN, app, ins_at s a g]
theorem tops_app : ∀ (f g : F), tops (app f g) = tops f ++ tops g
  | none, _ => by simp [tops, app]
  | some ⟨id, x, k, s⟩, g => by simp [tops, app, tops_app s g]
theorem ids_app : ∀ (f g : F), ids (app f g) = ids f ++ ids g
  | none, _ => by simp [ids, app]
  | some ⟨id, x, k, s⟩, g => by simp [ids, app, ids_app s g]
theorem tops_take : ∀ (f : F) (a : Nat), a ≤ (tops f).length → (tops (takeN f a)).length = a
  | f, 0, _ => by cases f <;> simp [tops, takeN]
  | none, _ + 1, h => by simp [tops] at h
  | some ⟨id, x, k, s⟩, a + 1, h => by simp [tops, takeN] at h ⊢; exact tops_take s a (by omega)
theorem tops_ids : ∀ (f : F) (i : Int), i ∈ tops f → i ∈ ids f
  | none, _, h => by simp [tops] at h
  | some ⟨id, x, k, s⟩, i, h => by
    simp only [tops, ids, List.mem_cons, List.mem_append] at h ⊢
    rcases h with h | h
    · exact Or.inl h
    · exact Or.inr (Or.inr (tops_ids s i h))
/-- The levels of rows. -/
theorem rows_level : ∀ (f : F) (n : Int), ∀ r ∈ rows f n, n ≤ r.2.level
  | none, _, _, h => by simp [rows] at h
  | some ⟨id, x, k, s⟩, n, r, h => by
    simp only [rows, List.mem_cons, List.mem_append] at h
    rcases h with h | h | h
    · rw [h]; exact Int.le_refl _
    · have := rows_level k (n + 1) r h; omega
    · exact rows_level s n r h
theorem rows_head : ∀ (f : F) (n : Int) (r : Row), (rows f n).head? = some r → r.2.level = n
  | none, _, _, h => by simp [rows] at h
  | some ⟨id, x, k, s⟩, n, r, h => by
    simp only [rows, List.head?_cons, Option.some.injEq] at h
    rw [← h]; rfl
/-- A node with all that is in it, alone. -/
def sub : F → Int → F
  | none, _ => none
  | some ⟨i, x, k, s⟩, id => if i = id then some ⟨i, x, k, none⟩ else match sub k id with
    | none => sub s id
    | t => t
/-- The id of the node that one is in. -/
def parF : F → Int → Option Int
  | none, _ => none
  | some ⟨i, _, k, s⟩, id => if id ∈ tops k then some i else match parF k id with
    | some p => some p
    | none => parF s id
/-- The last one at a level. -/
def lastL (l : List Row) (v : Int) : Option Int := (l.reverse.find? fun r => decide (r.2.level = v)).map (·.1)
theorem sub_none : ∀ (f : F) (id : Int), id ∉ ids f → sub f id = none
  | none, _, _ => by simp [sub]
  | some ⟨i, x, k, s⟩, id, h => by
    simp only [ids, List.mem_cons, List.mem_append, not_or] at h
    unfold sub
    rw [if_neg (fun q => h.1 q.symm), sub_none k id h.2.1]
    exact sub_none s id h.2.2
theorem par_none : ∀ (f : F) (id : Int), id ∉ ids f → parF f id = none
  | none, _, _ => by simp [parF]
  | some ⟨i, x, k, s⟩, id, h => by
    simp only [ids, List.mem_cons, List.mem_append, not_or] at h
    unfold parF
    rw [if_neg (fun q => h.2.1 (tops_ids k id q)), par_none k id h.2.1]
    exact par_none s id h.2.2
theorem par_top : ∀ (f : F) (id : Int), (ids f).Nodup → id ∈ tops f → parF f id = none
  | none, _, _, h => by simp [tops] at h
  | some ⟨i', x', k', s'⟩, id, hd', ht' => by
    simp only [ids, List.nodup_cons, List.mem_append, not_or] at hd'
    obtain ⟨⟨e1, e2⟩, e3⟩ := hd'
    rw [List.nodup_append] at e3
    have nk : id ∉ ids k' := by
      simp only [tops, List.mem_cons] at ht'
      rcases ht' with q | q
      · rw [q]; exact e1
      · exact fun r => e3.2.2 _ r _ (tops_ids s' id q) rfl
    unfold parF
    rw [if_neg (fun q => nk (tops_ids k' id q)), par_none k' id nk]
    simp only [tops, List.mem_cons] at ht'
    rcases ht' with q | q
    · exact par_none s' id (by rw [q]; exact e2)
    · exact par_top s' id e3.2.1 q
theorem last_app_some {l t : List Row} {v p : Int} (h : lastL t v = some p) : lastL (l ++ t) v = some p := by
  unfold lastL at *
  rw [List.reverse_append, List.find?_append]
  cases hq : t.reverse.find? fun r => decide (r.2.level = v) with
  | none => rw [hq] at h; cases h
  | some r => rw [hq] at h; exact h
theorem last_none {l : List Row} {v : Int} (h : ∀ r ∈ l, r.2.level ≠ v) : lastL l v = none := by
  unfold lastL
  rw [List.find?_eq_none.2 (fun r hr => by simpa using h r (List.mem_reverse.1 hr))]
  rfl
theorem last_app_none {l t : List Row} {v : Int} (h : ∀ r ∈ t, r.2.level ≠ v) : lastL (l ++ t) v = lastL l v := by
  unfold lastL
  rw [List.reverse_append, List.find?_append, List.find?_eq_none.2 (fun r hr => by simpa using h r (List.mem_reverse.1 hr))]
  rfl
/-- Where a node stands: what is ahead of it, its item and level, what is in it, what is behind. -/
structure At (f : F) (n : Int) (id : Int) (pre : List Row) (x : Itm) (m : Int) (k : F) (post : List Row) : Prop where
  eq : rows f n = pre ++ ((id, atL x m) :: (rows k (m + 1) ++ post))
  low : n ≤ m
  new : ∀ r ∈ pre, r.1 ≠ id
  stop : ∀ r, post.head? = some r → r.2.level ≤ m
  put : ∀ a g, rows (ins f id a g) n = pre ++ ((id, atL x m) :: (rows (insAt k a g) (m + 1) ++ post))
  cut : rows (del f id) n = pre ++ post
  set : ∀ h, rows (upd f id h) n = pre ++ ((id, atL (h x) m) :: (rows k (m + 1) ++ post))
  tree : sub f id = some ⟨id, x, k, none⟩
  lev : ∀ r ∈ pre, n ≤ r.2.level
  par : (id ∈ tops f ∧ m = n ∧ parF f id = none) ∨ ∃ q, n < m ∧ parF f id = some q ∧ lastL pre (m - 1) = some q
theorem ins_none : ∀ (f : F) (p : Int) (a : Nat) (g : F), p ∉ ids f → ins f p a g = f
  | none, _, _, _, _ => by simp [ins]
  | some ⟨id, x, k, s⟩, p, a, g, h => by
    simp only [ids, List.mem_cons, List.mem_append, not_or] at h
    unfold ins
    rw [if_neg (fun q => h.1 q.symm), ins_none k p a g h.2.1, ins_none s p a g h.2.2]
theorem del_none : ∀ (f : F) (p : Int), p ∉ ids f → del f p = f
  | none, _, _ => by simp [del]
  | some ⟨id, x, k, s⟩, p, h => by
    simp only [ids, List.mem_cons, List.mem_append, not_or] at h
    unfold del
    rw [if_neg (fun q => h.1 q.symm), del_none k p h.2.1, del_none s p h.2.2]
theorem upd_none : ∀ (f : F) (p : Int) (h : Itm → Itm), p ∉ ids f → upd f p h = f
  | none, _, _, _ => by simp [upd]
  | some ⟨id, x, k, s⟩, p, h, hn => by
    simp only [ids, List.mem_cons, List.mem_append, not_or] at hn
    unfold upd
    rw [if_neg (fun q => hn.1 q.symm), upd_none k p h hn.2.1, upd_none s p h hn.2.2]
theorem upd_ids : ∀ (f : F) (p : Int) (h : Itm → Itm), ids (upd f p h) = ids f ∧ tops (upd f p h) = tops f
  | none, _, _ => by simp [ids, tops, upd]
  | some ⟨id, x, k, s⟩, p, h => by
    unfold upd
    split
    · simp [ids, tops]
    · simp only [ids, tops, (upd_ids k p h).1, (upd_ids s p h).1, (upd_ids s p h).2]
      exact ⟨trivial, trivial⟩
theorem mem_rows {f : F} {n : Int} {r : Row} (h : r ∈ rows f n) : r.1 ∈ ids f := by
  rw [← rows_ids f n]
  exact List.mem_map_of_mem h
theorem at_of : ∀ (f : F) (n : Int) (id : Int), (ids f).Nodup → id ∈ ids f → ∃ pre x m k post, At f n id pre x m k post
  | none, _, _, _, h => by simp [ids] at h
  | some ⟨i, x, k, s⟩, n, id, hd, h => by
    simp only [ids, List.nodup_cons, List.mem_append, not_or] at hd
    obtain ⟨⟨d1, d2⟩, d3⟩ := hd
    rw [List.nodup_append] at d3
    obtain ⟨dk, ds, dd⟩ := d3
    by_cases hi : i = id
    · subst hi
      refine ⟨[], x, n, k, rows s n, ⟨by simp [rows], Int.le_refl _, by simp, fun r hr => by rw [rows_head s n r hr]; exact Int.le_refl _, fun a g => ?_, ?_, fun h => ?_, ?_, by simp, Or.inl ⟨by simp [tops], rfl, ?_⟩⟩⟩
      · simp [ins, rows]
      · simp [del]
      · simp [upd, rows]
      · simp [sub]
      · unfold parF
        rw [if_neg (fun q => d1 (tops_ids k _ q)), par_none k _ d1]
        exact par_none s _ d2
    · simp only [ids, List.mem_cons, List.mem_append] at h
      rcases h with h | h | h
      · exact absurd h.symm hi
      · have hs : id ∉ ids s := fun q => dd _ h _ q rfl
        obtain ⟨pre, y, m, kk, post, A⟩ := at_of k (n + 1) id dk h
        refine ⟨(i, atL x n) :: pre, y, m, kk, post ++ rows s n, ⟨?_, by have := A.low; omega, ?_, ?_, fun a g => ?_, ?_, fun h => ?_, ?_, ?_, ?_⟩⟩
        · rw [rows, A.eq]; simp
        · intro r hr
          rcases List.mem_cons.1 hr with q | q
          · rw [q]; exact hi
          · exact A.new r q
        · intro r hr
          cases hp : post with
          | nil =>
            rw [hp, List.nil_append] at hr
            have := rows_head s n r hr
            have := A.low
            omega
          | cons z t =>
            rw [hp] at hr
            exact A.stop r (by rw [hp]; simpa using hr)
        · rw [ins, if_neg hi, ins_none s id a g hs, rows, A.put]; simp
        · rw [del, if_neg hi, del_none s id hs, rows, A.cut]; simp
        · rw [upd, if_neg hi, upd_none s id h hs, rows, A.set]; simp
        · rw [sub, if_neg hi, A.tree]
        · intro r hr
          rcases List.mem_cons.1 hr with q | q
          · rw [q]; exact Int.le_refl _
          · have := A.lev r q; omega
        · refine Or.inr ?_
          rcases A.par with ⟨p1, p2, p3⟩ | ⟨q, p1, p2, p3⟩
          · refine ⟨i, by omega, by rw [parF, if_pos p1], ?_⟩
            rw [show (i, atL x n) :: pre = [(i, atL x n)] ++ pre from rfl, last_app_none (fun r hr => by have := A.lev r hr; omega)]
            have e : m - 1 = n := by omega
            rw [e]
            simp [lastL, atL]
          · refine ⟨q, by omega, ?_, ?_⟩
            · rw [parF]
              by_cases ht : id ∈ tops k
              · exfalso
                rw [par_top k id dk ht] at p2
                cases p2
              · rw [if_neg ht, p2]
            · exact last_app_some (l := [(i, atL x n)]) p3
      · have hk : id ∉ ids k := fun q => dd _ q _ h rfl
        obtain ⟨pre, y, m, kk, post, A⟩ := at_of s n id ds h
        refine ⟨(i, atL x n) :: (rows k (n + 1) ++ pre), y, m, kk, post, ⟨?_, A.low, ?_, A.stop, fun a g => ?_, ?_, fun h => ?_, ?_, ?_, ?_⟩⟩
        · rw [rows, A.eq]; simp
        · intro r hr
          rcases List.mem_cons.1 hr with q | q
          · rw [q]; exact hi
          · rcases List.mem_append.1 q with q | q
            · exact fun e => hk (e ▸ mem_rows q)
            · exact A.new r q
        · rw [ins, if_neg hi, ins_none k id a g hk, rows, A.put]; simp
        · rw [del, if_neg hi, del_none k id hk, rows, A.cut]; simp
        · rw [upd, if_neg hi, upd_none k id h hk, rows, A.set]; simp
        · rw [sub, if_neg hi, sub_none k id hk]
          exact A.tree
        · intro r hr
          rcases List.mem_cons.1 hr with q | q
          · rw [q]; exact Int.le_refl _
          · rcases List.mem_append.1 q with q | q
            · have := rows_level k (n + 1) r q; omega
            · exact A.lev r q
        · have hp : parF (some ⟨i, x, k, s⟩) id = parF s id := by
            rw [parF, if_neg (fun q => hk (tops_ids k id q)), par_none k id hk]
          rw [hp]
          rcases A.par with ⟨p1, p2, p3⟩ | ⟨q, p1, p2, p3⟩
          · exact Or.inl ⟨by simp [tops, p1], p2, p3⟩
          · refine Or.inr ⟨q, p1, p2, ?_⟩
            rw [show (i, atL x n) :: (rows k (n + 1) ++ pre) = ((i, atL x n) :: rows k (n + 1)) ++ pre from rfl]
            exact last_app_some p3
end T
end Go.Proofs.YtidccohjehegjaaDoor
namespace Go.Proofs.YtidccohjehegjaaDoor
namespace T
open P
/-- The number of a node in a row. -/
def findN (R : List Row) (id : Int) : Option Nat := R.findIdx? fun r => decide (r.1 = id)
/-- What is in a node: the rows right behind it whose level is greater. -/
def belowR (R : List Row) (k : Nat) (v : Int) : List Row := (R.drop (k + 1)).takeWhile fun r => decide (v < r.2.level)
def endR (R : List Row) (k : Nat) (v : Int) : Nat := k + 1 + (belowR R k v).length
/-- The numbers of those at a level. -/
def offs : List Row → Nat → Int → List Nat
  | [], _, _ => []
  | r :: l, i, v => if r.2.level = v then i :: offs l (i + 1) v else offs l (i + 1) v
def kidsR (R : List Row) (k : Nat) (v : Int) : List Nat := offs (belowR R k v) (k + 1) (v + 1)
def spotR (R : List Row) (k : Nat) (v : Int) (a : Nat) : Nat := (kidsR R k v)[a]?.getD (endR R k v)
theorem find_at {pre : List Row} {id : Int} {y : Itm} {t : List Row} (h : ∀ r ∈ pre, r.1 ≠ id) : findN (pre ++ ((id, y) :: t)) id = some pre.length := by
  unfold findN
  induction pre with
  | nil => rw [List.nil_append, List.findIdx?_cons, if_pos (by simp)]; rfl
  | cons a l ih =>
    have ha := h a (List.mem_cons_self ..)
    rw [List.cons_append, List.findIdx?_cons, if_neg (by simpa using ha), ih fun r hr => h r (List.mem_cons_of_mem _ hr)]
    simp
theorem find_none {R : List Row} {id : Int} (h : id ∉ R.map (·.1)) : findN R id = none := by
  unfold findN
  rw [List.findIdx?_eq_none_iff]
  intro r hr
  simp only [decide_eq_false_iff_not]
  intro q
  exact h (q ▸ List.mem_map_of_mem hr)
theorem below_at {pre : List Row} {id : Int} {y : Itm} {k : F} {m : Int} {post : List Row} (hs : ∀ r, post.head? = some r → r.2.level ≤ m) : belowR (pre ++ ((id, y) :: (rows k (m + 1) ++ post))) pre.length m = rows k (m + 1) := by
  unfold belowR
  have e : (pre ++ ((id, y) :: (rows k (m + 1) ++ post))).drop (pre.length + 1) = rows k (m + 1) ++ post := by
    rw [List.drop_append, List.drop_eq_nil_of_le (by omega)]
    simp
  rw [e, List.takeWhile_append_of_pos (fun r hr => by have := rows_level k (m + 1) r hr; simp only [decide_eq_true_eq]; omega)]
  cases post with
  | nil => simp
  | cons z t =>
    have := hs z rfl
    rw [List.takeWhile_cons_of_neg (by simp only [decide_eq_true_eq]; omega), List.append_nil]
theorem offs_app : ∀ (l t : List Row) (i : Nat) (v : Int), offs (l ++ t) i v = offs l i v ++ offs t (i + l.length) v
  | [], t, i, v => rfl
  | r :: l, t, i, v => by
    have := offs_app l t (i + 1) v
    rw [List.cons_append, offs, offs, this, List.length_cons, show i + 1 + l.length = i + (l.length + 1) by omega]
    split <;> rfl
theorem offs_none : ∀ (l : List Row) (i : Nat) (v : Int), (∀ r ∈ l, r.2.level ≠ v) → offs l i v = []
  | [], _, _, _ => rfl
  | r :: l, i, v, h => by
    rw [offs, if_neg (h r (List.mem_cons_self ..))]
    exact offs_none l (i + 1) v fun z hz => h z (List.mem_cons_of_mem _ hz)
/-- Those on top stand where the trees ahead of them end. -/
theorem offs_rows : ∀ (f : F) (i : Nat) (v : Int), (offs (rows f v) i v).length = (tops f).length ∧ ∀ a, a < (tops f).length → (offs (rows f v) i v)[a]? = some (i + (rows (takeN f a) v).length)
  | none, _, _ => ⟨by simp [offs, rows, tops], fun a h => by simp [tops] at h⟩
  | some ⟨id, x, k, s⟩, i, v => by
    have hk : offs (rows k (v + 1)) (i + 1) v = [] := offs_none _ _ _ fun r hr => by have := rows_level k (v + 1) r hr; omega
    have e : offs (rows (some ⟨id, x, k, s⟩) v) i v = i :: offs (rows s v) (i + 1 + (rows k (v + 1)).length) v := by
      rw [rows, offs, if_pos (show (id, atL x v).2.level = v from rfl), offs_app, hk, List.nil_append]
    obtain ⟨h1, h2⟩ := offs_rows s (i + 1 + (rows k (v + 1)).length) v
    rw [e]
    refine ⟨by simp [tops, h1], fun a ha => ?_⟩
    cases a with
    | zero => simp [takeN, rows]
    | succ a =>
      simp only [tops, List.length_cons] at ha
      rw [List.getElem?_cons_succ, h2 a (by omega)]
      simp only [takeN, rows, List.length_cons, List.length_append, Option.some.injEq]
      omega
/-- The ids of those on top. -/
theorem tops_at : ∀ (f : F) (v : Int) (a : Nat), a < (tops f).length → (rows f v)[(rows (takeN f a) v).length]?.map (·.1) = (tops f)[a]?
  | none, _, _, h => by simp [tops] at h
  | some ⟨id, x, k, s⟩, v, 0, _ => by simp [takeN, rows, tops]
  | some ⟨id, x, k, s⟩, v, a + 1, h => by
    simp only [tops, List.length_cons] at h
    have := tops_at s v a (by omega)
    simp only [takeN, rows, tops, List.length_cons, List.length_append, List.getElem?_cons_succ]
    rw [← this, List.getElem?_append_right (by omega), Nat.add_sub_cancel_left]
theorem take_all : ∀ f : F, takeN f (tops f).length = f
  | none => by simp [tops, takeN]
  | some ⟨id, x, k, s⟩ => by simp [tops, takeN, take_all s]
section
variable {f : F} {n id : Int} {pre : List Row} {x : Itm} {m : Int} {k : F} {post : List Row}
theorem At.find (A : At f n id pre x m k post) : findN (rows f n) id = some pre.length := by rw [A.eq]; exact find_at A.new
theorem At.get (A : At f n id pre x m k post) : (rows f n)[pre.length]? = some (id, atL x m) := by rw [A.eq]; simp
theorem At.below (A : At f n id pre x m k post) : belowR (rows f n) pre.length m = rows k (m + 1) := by rw [A.eq]; exact below_at A.stop
theorem At.fin (A : At f n id pre x m k post) : endR (rows f n) pre.length m = pre.length + 1 + (rows k (m + 1)).length := by unfold endR; rw [A.below]
theorem At.kids (A : At f n id pre x m k post) : (kidsR (rows f n) pre.length m).length = (tops k).length ∧ ∀ a, a < (tops k).length → (kidsR (rows f n) pre.length m)[a]? = some (pre.length + 1 + (rows (takeN k a) (m + 1)).length) := by
  unfold kidsR
  rw [A.below]
  exact offs_rows k (pre.length + 1) (m + 1)
theorem At.kid (A : At f n id pre x m k post) (a : Nat) (h : a < (tops k).length) : (rows f n)[pre.length + 1 + (rows (takeN k a) (m + 1)).length]?.map (·.1) = (tops k)[a]? := by
  rw [← tops_at k (m + 1) a h, A.eq]
  have hl : (rows (takeN k a) (m + 1)).length < (rows k (m + 1)).length := by
    have := tops_at k (m + 1) a h
    rw [List.getElem?_eq_getElem h] at this
    by_cases q : (rows (takeN k a) (m + 1)).length < (rows k (m + 1)).length
    · exact q
    · rw [List.getElem?_eq_none (by omega)] at this
      simp at this
  rw [List.getElem?_append_right (by omega), show pre.length + 1 + (rows (takeN k a) (m + 1)).length - pre.length = (rows (takeN k a) (m + 1)).length + 1 by omega, List.getElem?_cons_succ, List.getElem?_append_left hl]
theorem At.spot (A : At f n id pre x m k post) (a : Nat) (h : a ≤ (tops k).length) : spotR (rows f n) pre.length m a = pre.length + 1 + (rows (takeN k a) (m + 1)).length := by
  obtain ⟨h1, h2⟩ := A.kids
  unfold spotR
  by_cases q : a < (tops k).length
  · rw [h2 a q]; rfl
  · rw [List.getElem?_eq_none (by omega), A.fin]
    have ha : a = (tops k).length := by omega
    have e : takeN k a = k := by
      rw [ha]
      exact take_all k
    rw [e]
    rfl
/-- Rows laid ahead of where a new kid stands are the rows of the forest with it. -/
theorem At.laid (A : At f n id pre x m k post) (a : Nat) (h : a ≤ (tops k).length) (g : F) : (rows f n).take (spotR (rows f n) pre.length m a) ++ (rows g (m + 1) ++ (rows f n).drop (spotR (rows f n) pre.length m a)) = rows (ins f id a g) n := by
  rw [A.spot a h, A.put, ins_at, rows_app, rows_app]
  have e : rows f n = (pre ++ ((id, atL x m) :: rows (takeN k a) (m + 1))) ++ (rows (dropN k a) (m + 1) ++ post) := by
    rw [A.eq]
    conv => lhs; rw [← take_drop k a, rows_app]
    simp
  have hl : (pre ++ ((id, atL x m) :: rows (takeN k a) (m + 1))).length = pre.length + 1 + (rows (takeN k a) (m + 1)).length := by simp; omega
  rw [e, ← hl, List.take_left, List.drop_left]
  simp
/-- Rows without a node and all that is in it. -/
theorem At.without (A : At f n id pre x m k post) : (rows f n).take pre.length ++ (rows f n).drop (endR (rows f n) pre.length m) = rows (del f id) n := by
  rw [A.fin, A.cut, A.eq]
  have e : pre ++ ((id, atL x m) :: (rows k (m + 1) ++ post)) = (pre ++ ((id, atL x m) :: rows k (m + 1))) ++ post := by simp
  have hl : (pre ++ ((id, atL x m) :: rows k (m + 1))).length = pre.length + 1 + (rows k (m + 1)).length := by simp; omega
  rw [List.take_left]
  rw [e, ← hl, List.drop_left]
/-- A node, and all that is in it. -/
theorem At.part (A : At f n id pre x m k post) : ((rows f n).drop pre.length).take (endR (rows f n) pre.length m - pre.length) = rows (some ⟨id, x, k, none⟩) m := by
  rw [A.fin, A.eq, List.drop_left, show pre.length + 1 + (rows k (m + 1)).length - pre.length = (rows k (m + 1)).length + 1 by omega, List.take_succ_cons, List.take_left]
  simp [rows]
/-- The id of the node that one is in, as a row tells it. -/
theorem At.parent (A : At f n id pre x m k post) : lastL ((rows f n).take pre.length) (m - 1) = parF f id := by
  rw [A.eq, List.take_left]
  rcases A.par with ⟨p1, p2, p3⟩ | ⟨q, p1, p2, p3⟩
  · rw [p3]
    exact last_none fun r hr => by have := A.lev r hr; omega
  · rw [p2, p3]
end
/-- Rows at other levels. -/
theorem rows_shift (d : Int) : ∀ (f : F) (n : Int), (rows f n).map (fun r => (r.1, { r.2 with level := r.2.level - d })) = rows f (n - d)
  | none, _ => by simp [rows]
  | some ⟨id, x, k, s⟩, n => by
    simp only [rows, List.map_cons, List.map_append, rows_shift d k, rows_shift d s]
    rw [show n + 1 - d = n - d + 1 by omega]
    rfl
end T
end Go.Proofs.YtidccohjehegjaaDoor
namespace Go.Proofs.YtidccohjehegjaaDoor
namespace T
open P
/-- The forest of a row. -/
def build : Nat → Int → List Row → F
  | 0, _, _ => none
  | _ + 1, _, [] => none
  | f + 1, n, r :: l => some ⟨r.1, r.2, build f (n + 1) (l.takeWhile fun q => decide (n < q.2.level)), build f n (l.dropWhile fun q => decide (n < q.2.level))⟩
/-- Levels that rise by one at the most, from one on, and stand at a level or beyond. -/
def stairs (n : Int) : Int → List Row → Prop
  | _, [] => True
  | top, r :: l => n ≤ r.2.level ∧ r.2.level ≤ top ∧ stairs n (r.2.level + 1) l
theorem stairs_take {n : Int} : ∀ (l : List Row) (top : Int), stairs n top l → top ≤ n + 1 ∨ True → stairs (n + 1) top (l.takeWhile fun q => decide (n < q.2.level))
  | [], _, _, _ => trivial
  | r :: l, top, h, _ => by
    by_cases hq : n < r.2.level
    · rw [List.takeWhile_cons_of_pos (by simpa using hq)]
      exact ⟨by omega, h.2.1, stairs_take l _ h.2.2 (Or.inr trivial)⟩
    · rw [List.takeWhile_cons_of_neg (by simpa using hq)]
      trivial
theorem stairs_mono {n : Int} : ∀ {l : List Row} {a b : Int}, stairs n a l → a ≤ b → stairs n b l
  | [], _, _, _, _ => trivial
  | _ :: _, _, _, h, hb => ⟨h.1, by have := h.2.1; omega, h.2.2⟩
theorem stairs_drop {n : Int} : ∀ (l : List Row) (top : Int), stairs n top l → stairs n n (l.dropWhile fun q => decide (n < q.2.level))
  | [], _, _ => trivial
  | r :: l, top, h => by
    by_cases hq : n < r.2.level
    · rw [List.dropWhile_cons_of_pos (by simpa using hq)]
      exact stairs_drop l _ h.2.2
    · rw [List.dropWhile_cons_of_neg (by simpa using hq)]
      exact ⟨h.1, by omega, h.2.2⟩
theorem at_self {x : Itm} {n : Int} (h : x.level = n) : atL x n = x := by cases x; simp only [atL] at *; rw [h]
/-- The rows of the forest of a row are that row. -/
theorem build_rows : ∀ (f : Nat) (n : Int) (l : List Row), l.length ≤ f → stairs n n l → rows (build f n l) n = l
  | 0, _, l, h, _ => by
    have : l = [] := List.eq_nil_of_length_eq_zero (by omega)
    subst this
    simp [build, rows]
  | _ + 1, _, [], _, _ => by simp [build, rows]
  | f + 1, n, r :: l, h, hs => by
    have hl : l.length ≤ f := by simpa using h
    have h1 : (l.takeWhile fun q => decide (n < q.2.level)).length ≤ f := Nat.le_trans (List.takeWhile_prefix _).length_le hl
    have h2 : (l.dropWhile fun q => decide (n < q.2.level)).length ≤ f := Nat.le_trans (List.dropWhile_suffix _).length_le hl
    have hn : r.2.level = n := by have := hs.1; have := hs.2.1; omega
    have s1 : stairs (n + 1) (n + 1) (l.takeWhile fun q => decide (n < q.2.level)) := stairs_take l _ (by have := hs.2.2; rw [hn] at this; exact this) (Or.inr trivial)
    have s2 := stairs_drop l _ hs.2.2
    rw [build, rows, build_rows f (n + 1) _ h1 s1, build_rows f n _ h2 s2, List.takeWhile_append_dropWhile, at_self hn]
/-- The ids behind an insertion. -/
theorem ids_insAt : ∀ (f : F) (a : Nat) (g : F), (ids (insAt f a g)).Perm (ids f ++ ids g) := by
  intro f a g
  rw [ins_at, ids_app, ids_app]
  have e : ids f = ids (takeN f a) ++ ids (dropN f a) := by rw [← ids_app, take_drop]
  rw [e]
  simp only [List.append_assoc]
  exact (List.perm_append_comm).append_left _
theorem ids_ins : ∀ (f : F) (p : Int) (a : Nat) (g : F), (ids f).Nodup → p ∈ ids f → (ids (ins f p a g)).Perm (ids f ++ ids g)
  | none, _, _, _, _, h => by simp [ids] at h
  | some ⟨i, x, k, s⟩, p, a, g, hd, h => by
    simp only [ids, List.nodup_cons, List.mem_append, not_or] at hd
    obtain ⟨⟨d1, d2⟩, d3⟩ := hd
    rw [List.nodup_append] at d3
    unfold ins
    split
    · simp only [ids, List.cons_append]
      refine List.Perm.cons _ ?_
      have := (ids_insAt k a g).append_right (ids s)
      refine this.trans ?_
      simp only [List.append_assoc]
      exact (List.perm_append_comm).append_left _
    · rename_i hi
      simp only [ids, List.mem_cons, List.mem_append] at h
      simp only [ids, List.cons_append]
      refine List.Perm.cons _ ?_
      rcases h with h | h | h
      · exact absurd h.symm hi
      · have hs : p ∉ ids s := fun q => d3.2.2 _ h _ q rfl
        rw [ins_none s p a g hs]
        refine ((ids_ins k p a g d3.1 h).append_right (ids s)).trans ?_
        simp only [List.append_assoc]
        exact (List.perm_append_comm).append_left _
      · have hk : p ∉ ids k := fun q => d3.2.2 _ q _ h rfl
        rw [ins_none k p a g hk, List.append_assoc]
        exact (ids_ins s p a g d3.2.1 h).append_left _
/-- What is left behind a deletion was there. -/
theorem ids_del : ∀ (f : F) (d : Int), (ids (del f d)).Sublist (ids f)
  | none, _ => by simp [ids, del]
  | some ⟨i, x, k, s⟩, d => by
    unfold del
    split
    · simp only [ids]
      exact List.Sublist.cons _ (List.sublist_append_right _ _)
    · simp only [ids]
      exact List.Sublist.cons_cons _ ((ids_del k d).append (ids_del s d))
theorem del_nodup {f : F} (d : Int) (h : (ids f).Nodup) : (ids (del f d)).Nodup := h.sublist (ids_del f d)
theorem ins_nodup {f g : F} {p : Int} (a : Nat) (h : (ids f).Nodup) (hp : p ∈ ids f) (hg : (ids g).Nodup) (hd : ∀ i ∈ ids g, i ∉ ids f) : (ids (ins f p a g)).Nodup := by
  refine (ids_ins f p a g h hp).nodup_iff.2 ?_
  rw [List.nodup_append]
  exact ⟨h, hg, fun x hx y hy e => hd y hy (e ▸ hx)⟩
/-- What is put in, and taken out again. -/
theorem del_app : ∀ (f g : F) (d : Int), d ∉ ids f → del (app f g) d = app f (del g d)
  | none, _, _, _ => by simp [app]
  | some ⟨i, x, k, s⟩, g, d, h => by
    simp only [ids, List.mem_cons, List.mem_append, not_or] at h
    simp only [app]
    rw [del, if_neg (fun q => h.1 q.symm), del_none k d h.2.1, del_app s g d h.2.2]
theorem ids_take : ∀ (f : F) (a : Nat) (i : Int), i ∈ ids (takeN f a) → i ∈ ids f := by
  intro f a i h
  have e : ids f = ids (takeN f a) ++ ids (dropN f a) := by rw [← ids_app, take_drop]
  rw [e]
  exact List.mem_append_left _ h
theorem del_insAt (k : F) (a : Nat) (i : Int) (x : Itm) (kk s : F) (h : i ∉ ids k) : del (insAt k a (some ⟨i, x, kk, s⟩)) i = insAt k a s := by
  rw [ins_at, ins_at, del_app _ _ _ (fun q => h (ids_take k a i q))]
  simp only [app]
  rw [del, if_pos rfl]
theorem del_ins : ∀ (f : F) (p : Int) (a : Nat) (i : Int) (x : Itm) (kk s : F), (ids f).Nodup → i ∉ ids f → i ≠ p → del (ins f p a (some ⟨i, x, kk, s⟩)) i = ins f p a s
  | none, _, _, _, _, _, _, _, _, _ => by simp [ins, del]
  | some ⟨j, y, k, t⟩, p, a, i, x, kk, s, hd, h, hp => by
    simp only [ids, List.nodup_cons, List.mem_append, not_or] at hd
    simp only [ids, List.mem_cons, List.mem_append, not_or] at h
    rw [List.nodup_append] at hd
    unfold ins
    split
    · rw [del, if_neg (fun q => h.1 q.symm), del_insAt k a i x kk s h.2.1, del_none t i h.2.2]
    · rw [del, if_neg (fun q => h.1 q.symm), del_ins k p a i x kk s hd.2.1 h.2.1 hp, del_ins t p a i x kk s hd.2.2.1 h.2.2 hp]
theorem insAt_nil : ∀ (k : F) (a : Nat), insAt k a none = k
  | k, 0 => by cases k <;> simp [insAt, app]
  | none, _ + 1 => by simp [insAt]
  | some ⟨i, x, kk, s⟩, a + 1 => by simp [insAt, insAt_nil s a]
theorem ins_nil : ∀ (f : F) (p : Int) (a : Nat), ins f p a none = f
  | none, _, _ => by simp [ins]
  | some ⟨i, x, k, s⟩, p, a => by
    unfold ins
    split
    · rw [insAt_nil]
    · rw [ins_nil k, ins_nil s]
end T
end Go.Proofs.YtidccohjehegjaaDoor
namespace Go.Proofs.YtidccohjehegjaaDoor
namespace T
open P L
/-- The greatest level behind an item. -/
def topF : Option Itm → Int
  | none => 0
  | some p => p.level + if p.kind = 2 then 0 else 1
def topS : Option Itm → Int
  | none => 0
  | some p => p.level + 1
theorem top_le (o : Option Itm) : topF o ≤ topS o := by
  cases o with
  | none => exact Int.le_refl _
  | some p => unfold topF topS; simp only; split <;> omega
/-- What is amiss with items that are to be kids, by the one ahead. -/
def forestF : Option Itm → List Itm → Int
  | _, [] => 0
  | prev, x :: l => if x.level < 0 ∨ topF prev < x.level then 69 else if partsE x ≠ 0 then partsE x else forestF (some x) l
def forestE (l : List Itm) : Int := if l = [] then 40 else forestF none l
def deepest (l : List Itm) : Int := l.foldl (fun a x => max a x.level) 0
/-- Items as rows with ids in order, at levels that are greater. -/
def named : Int → Int → List Itm → List Row
  | _, _, [] => []
  | nx, d, x :: l => (nx, { x with level := x.level + d }) :: named (nx + 1) d l
theorem named_len : ∀ (l : List Itm) (nx d : Int), (named nx d l).length = l.length
  | [], _, _ => rfl
  | _ :: l, nx, d => by simp [named, named_len l]
theorem named_ids : ∀ (l : List Itm) (nx d : Int) (i : Int), i ∈ (named nx d l).map (·.1) ↔ nx ≤ i ∧ i < nx + l.length
  | [], nx, d, i => by
    simp only [named, List.map_nil, List.not_mem_nil, List.length_nil, false_iff]
    omega
  | x :: l, nx, d, i => by
    simp only [named, List.map_cons, List.mem_cons, named_ids l (nx + 1) d i, List.length_cons]
    omega
theorem named_nodup : ∀ (l : List Itm) (nx d : Int), ((named nx d l).map (·.1)).Nodup
  | [], _, _ => List.nodup_nil
  | x :: l, nx, d => by
    simp only [named, List.map_cons, List.nodup_cons]
    refine ⟨fun q => ?_, named_nodup l (nx + 1) d⟩
    rw [named_ids] at q
    omega
theorem forest_stairs : ∀ (l : List Itm) (prev : Option Itm) (nx d : Int), forestF prev l = 0 → stairs d (d + topS prev) (named nx d l)
  | [], _, _, _, _ => trivial
  | x :: l, prev, nx, d, h => by
    unfold forestF at h
    split at h
    · simp at h
    · rename_i h1
      split at h
      · rename_i h2; exact absurd h h2
      · have ih := forest_stairs l (some x) (nx + 1) d h
        have hle : x.level ≤ topS prev := by
          have h3 := top_le prev
          have : ¬ topF prev < x.level := fun q => h1 (Or.inr q)
          omega
        have h0 : 0 ≤ x.level := by
          rcases Int.lt_or_le x.level 0 with q | q
          · exact absurd (Or.inl q) h1
          · exact q
        refine ⟨?_, ?_, ?_⟩
        · show d ≤ x.level + d; omega
        · show x.level + d ≤ _; omega
        · show stairs d (x.level + d + 1) _
          rw [show x.level + d + 1 = d + topS (some x) by show _ = d + (x.level + 1); omega]
          exact ih
/-- The forest that items stand for. -/
def forestOf (nx d : Int) (l : List Itm) : F := build l.length d (named nx d l)
theorem forest_rows {l : List Itm} (nx d : Int) (h : forestF none l = 0) : rows (forestOf nx d l) d = named nx d l := by
  refine build_rows _ _ _ (by rw [named_len]; exact Nat.le_refl _) ?_
  have := forest_stairs l none nx d h
  rwa [show d + topS none = d by simp [topS]] at this
theorem forest_ids {l : List Itm} (nx d : Int) (h : forestF none l = 0) : ids (forestOf nx d l) = (named nx d l).map (·.1) := by
  rw [← rows_ids _ d, forest_rows nx d h]
/-- A tree: its nodes in order, and the next id. -/
structure Tr where
  L : List Row
  nx : Int
/-- The item at a number. -/
def itemAt (R : List Row) (k : Nat) : Itm := (R[k]?.map (·.2)).getD ⟨0, 0, noB, noB, []⟩
def insertR (t : Tr) (p at' : Int) (l : List Itm) : Tr × Int × Int :=
  match findN t.L p with
  | none => (t, 0, 60)
  | some k =>
    if (itemAt t.L k).kind ≠ 1 then (t, 0, 68)
    else if at' < 0 ∨ ((kidsR t.L k (itemAt t.L k).level).length : Int) < at' then (t, 0, 69)
    else if forestE l ≠ 0 then (t, 0, forestE l)
    else if 40 ≤ (itemAt t.L k).level + 1 + deepest l then (t, 0, 65)
    else if 1000 < t.L.length + l.length ∨ 2147483647 < t.nx + l.length then (t, 0, 66)
    else (⟨t.L.take (spotR t.L k (itemAt t.L k).level at'.toNat) ++ (named t.nx ((itemAt t.L k).level + 1) l ++ t.L.drop (spotR t.L k (itemAt t.L k).level at'.toNat)), t.nx + l.length⟩, t.nx, 0)
def deleteR (t : Tr) (id : Int) : Tr × Int :=
  match findN t.L id with
  | none => (t, 60)
  | some k => if k = 0 then (t, 62) else (⟨t.L.take k ++ t.L.drop (endR t.L k (itemAt t.L k).level), t.nx⟩, 0)
def loadR (t : Tr) (l : List Itm) : Tr × Int × Int :=
  if (checkP l).2 ≠ 0 then (t, 0, (checkP l).2)
  else if 2147483647 < t.nx + l.length then (t, 0, 66)
  else (⟨named t.nx 0 l, t.nx + l.length⟩, t.nx, 0)
theorem At.item {f : F} {n id : Int} {pre : List Row} {x : Itm} {m : Int} {k : F} {post : List Row} (A : At f n id pre x m k post) : itemAt (rows f n) pre.length = atL x m := by
  unfold itemAt
  rw [A.get]
  rfl
/-- Items put in as kids of a node: on a forest. -/
def insertF (f : F) (nx : Int) (p at' : Int) (l : List Itm) : (F × Int) × Int × Int :=
  if p ∉ ids f then ((f, nx), 0, 60)
  else match sub f p with
    | none => ((f, nx), 0, 60)
    | some ⟨_, x, k, _⟩ =>
      if x.kind ≠ 1 then ((f, nx), 0, 68)
      else if at' < 0 ∨ ((tops k).length : Int) < at' then ((f, nx), 0, 69)
      else if forestE l ≠ 0 then ((f, nx), 0, forestE l)
      else match findN (rows f 0) p with
        | none => ((f, nx), 0, 60)
        | some j =>
          if 40 ≤ (itemAt (rows f 0) j).level + 1 + deepest l then ((f, nx), 0, 65)
          else if 1000 < (rows f 0).length + l.length ∨ 2147483647 < nx + l.length then ((f, nx), 0, 66)
          else ((ins f p at'.toNat (forestOf nx ((itemAt (rows f 0) j).level + 1) l), nx + l.length), nx, 0)
theorem insert_same {f : F} {nx : Int} (hd : (ids f).Nodup) (p at' : Int) (l : List Itm) :
    insertR ⟨rows f 0, nx⟩ p at' l = (⟨rows (insertF f nx p at' l).1.1 0, (insertF f nx p at' l).1.2⟩, (insertF f nx p at' l).2.1, (insertF f nx p at' l).2.2) := by
  by_cases hp : p ∈ ids f
  · obtain ⟨pre, x, m, k, post, A⟩ := at_of f 0 p hd hp
    have hl : (itemAt (rows f 0) pre.length).level = m := by rw [A.item]; rfl
    have hk : (itemAt (rows f 0) pre.length).kind = x.kind := by rw [A.item]; rfl
    unfold insertR insertF
    simp only [A.find, if_neg (not_not_intro hp), A.tree, hl, hk, A.kids.1]
    split
    · rfl
    · split
      · rfl
      · rename_i ha
        split
        · rfl
        · rename_i hf
          split
          · rfl
          · split
            · rfl
            · have hn : l ≠ [] := by
                rintro rfl
                simp [forestE] at hf
              have hf0 : forestF none l = 0 := by
                have : forestE l = 0 := by simpa using hf
                unfold forestE at this
                rwa [if_neg hn] at this
              have ha2 : at'.toNat ≤ (tops k).length := by omega
              simp only [Prod.mk.injEq, and_true, Tr.mk.injEq]
              rw [← A.laid at'.toNat ha2, forest_rows nx (m + 1) hf0]
  · have hn : findN (rows f 0) p = none := find_none (by rw [rows_ids]; exact hp)
    unfold insertR insertF
    simp only [hn, if_pos hp]
def deleteF (f : F) (id : Int) : F × Int :=
  if id ∉ ids f then (f, 60) else if findN (rows f 0) id = some 0 then (f, 62) else (del f id, 0)
theorem delete_same {f : F} {nx : Int} (hd : (ids f).Nodup) (id : Int) : deleteR ⟨rows f 0, nx⟩ id = (⟨rows (deleteF f id).1 0, nx⟩, (deleteF f id).2) := by
  by_cases hp : id ∈ ids f
  · obtain ⟨pre, x, m, k, post, A⟩ := at_of f 0 id hd hp
    have hl : (itemAt (rows f 0) pre.length).level = m := by rw [A.item]; rfl
    unfold deleteR deleteF
    simp only [A.find, if_neg (not_not_intro hp), hl, Option.some.injEq]
    split
    · rfl
    · simp only [Prod.mk.injEq, and_true, Tr.mk.injEq]
      exact A.without
  · have hn : findN (rows f 0) id = none := find_none (by rw [rows_ids]; exact hp)
    unfold deleteR deleteF
    simp only [hn, if_pos hp]
/-- Rows at levels that are less. -/
def lessR (d : Int) (R : List Row) : List Row := R.map fun r => (r.1, { r.2 with level := r.2.level - d })
def moveR (t : Tr) (id to at' : Int) : Tr × Int :=
  match findN t.L id, findN t.L to with
  | none, _ => (t, 60)
  | some _, none => (t, 60)
  | some k, some p =>
    if k = 0 then (t, 62)
    else if (itemAt t.L p).kind ≠ 1 then (t, 68)
    else if k ≤ p ∧ p < endR t.L k (itemAt t.L k).level then (t, 61)
    else match findN (t.L.take k ++ t.L.drop (endR t.L k (itemAt t.L k).level)) to with
      | none => (t, 60)
      | some q =>
        if at' < 0 ∨ ((kidsR (t.L.take k ++ t.L.drop (endR t.L k (itemAt t.L k).level)) q (itemAt (t.L.take k ++ t.L.drop (endR t.L k (itemAt t.L k).level)) q).level).length : Int) < at' then (t, 69)
        else if ((lessR ((itemAt t.L k).level - (itemAt t.L p).level - 1) ((t.L.drop k).take (endR t.L k (itemAt t.L k).level - k))).any fun r => decide (40 ≤ r.2.level)) = true then (t, 65)
        else (⟨(t.L.take k ++ t.L.drop (endR t.L k (itemAt t.L k).level)).take (spotR (t.L.take k ++ t.L.drop (endR t.L k (itemAt t.L k).level)) q (itemAt (t.L.take k ++ t.L.drop (endR t.L k (itemAt t.L k).level)) q).level at'.toNat) ++
            (lessR ((itemAt t.L k).level - (itemAt t.L p).level - 1) ((t.L.drop k).take (endR t.L k (itemAt t.L k).level - k)) ++
            (t.L.take k ++ t.L.drop (endR t.L k (itemAt t.L k).level)).drop (spotR (t.L.take k ++ t.L.drop (endR t.L k (itemAt t.L k).level)) q (itemAt (t.L.take k ++ t.L.drop (endR t.L k (itemAt t.L k).level)) q).level at'.toNat)), t.nx⟩, 0)
/-- Is a node in another one, or that? -/
def insideB (f : F) (id to : Int) : Bool := decide (to ∈ ids (sub f id))
theorem ids_sub_at {f : F} {n id : Int} {pre : List Row} {x : Itm} {m : Int} {k : F} {post : List Row} (A : At f n id pre x m k post) : ids (sub f id) = id :: ids k := by
  rw [A.tree]
  simp [ids]
/-- Where another node stands, by a node: in it or not. -/
theorem inside_num {f : F} {id to : Int} {pre pre' : List Row} {x x' : Itm} {m m' : Int} {k k' : F} {post post' : List Row} (hd : (ids f).Nodup) (A : At f 0 id pre x m k post) (B : At f 0 to pre' x' m' k' post') :
    (pre.length ≤ pre'.length ∧ pre'.length < endR (rows f 0) pre.length m) ↔ to ∈ ids (sub f id) := by
  have hnd : ((rows f 0).map (·.1)).Nodup := by rw [rows_ids]; exact hd
  have g : ((rows f 0).map (·.1))[pre'.length]? = some to := by rw [List.getElem?_map, B.get]; rfl
  have e : (rows f 0).map (·.1) = pre.map (·.1) ++ ((id :: ids k) ++ post.map (·.1)) := by
    rw [A.eq, List.map_append, List.map_cons, List.map_append, rows_ids]
    rfl
  have hlen : (pre.map (·.1)).length = pre.length := by simp
  have hk : (id :: ids k).length = 1 + (rows k (m + 1)).length := by
    rw [← rows_ids k (m + 1)]
    simp
    omega
  rw [A.fin, ids_sub_at A]
  rw [e] at g hnd
  constructor
  · rintro ⟨h1, h2⟩
    rw [List.getElem?_append_right (by omega), List.getElem?_append_left (by omega)] at g
    exact List.mem_of_getElem? g
  · intro hm
    rw [List.nodup_append] at hnd
    obtain ⟨n1, n2, n3⟩ := hnd
    rw [List.nodup_append] at n2
    obtain ⟨n4, n5, n6⟩ := n2
    by_cases q1 : pre'.length < pre.length
    · exfalso
      rw [List.getElem?_append_left (by omega)] at g
      exact n3 _ (List.mem_of_getElem? g) _ (List.mem_append_left _ hm) rfl
    · by_cases q2 : pre'.length < pre.length + 1 + (rows k (m + 1)).length
      · exact ⟨by omega, q2⟩
      · exfalso
        rw [List.getElem?_append_right (by omega), List.getElem?_append_right (by omega)] at g
        exact n6 _ hm _ (List.mem_of_getElem? g) rfl
/-- A node moved: on a forest. -/
def moveF (f : F) (id to at' : Int) : F × Int :=
  if id ∉ ids f ∨ to ∉ ids f then (f, 60)
  else if findN (rows f 0) id = some 0 then (f, 62)
  else match sub f to, sub (del f id) to with
    | some ⟨_, y, _, _⟩, some ⟨_, _, kk, _⟩ =>
      if y.kind ≠ 1 then (f, 68)
      else if insideB f id to = true then (f, 61)
      else if at' < 0 ∨ ((tops kk).length : Int) < at' then (f, 69)
      else if ((rows (sub f id) ((itemAt (rows f 0) ((findN (rows f 0) to).getD 0)).level + 1)).any fun r => decide (40 ≤ r.2.level)) = true then (f, 65)
      else (ins (del f id) to at'.toNat (sub f id), 0)
    | some ⟨_, y, _, _⟩, none => if y.kind ≠ 1 then (f, 68) else (f, 61)
    | none, _ => (f, 60)
end T
end Go.Proofs.YtidccohjehegjaaDoor
namespace Go.Proofs.YtidccohjehegjaaDoor
namespace T
open P L
theorem uniq_row : ∀ {R : List Row} {i : Int} {a b : Itm}, (R.map (·.1)).Nodup → (i, a) ∈ R → (i, b) ∈ R → a = b
  | r :: R, i, a, b, hd, ha, hb => by
    simp only [List.map_cons, List.nodup_cons] at hd
    rcases List.mem_cons.1 ha with p | p
    · rcases List.mem_cons.1 hb with q | q
      · rw [← p] at q
        simp only [Prod.mk.injEq, true_and] at q
        exact q.symm
      · exfalso
        apply hd.1
        rw [← p]
        exact List.mem_map_of_mem (f := (·.1)) q
    · rcases List.mem_cons.1 hb with q | q
      · exfalso
        apply hd.1
        rw [← q]
        exact List.mem_map_of_mem (f := (·.1)) p
      · exact uniq_row hd.2 p q
theorem At.mem {f : F} {n id : Int} {pre : List Row} {x : Itm} {m : Int} {k : F} {post : List Row} (A : At f n id pre x m k post) : (id, atL x m) ∈ rows f n := by rw [A.eq]; simp
theorem del_mem {f : F} {id : Int} {pre : List Row} {x : Itm} {m : Int} {k : F} {post : List Row} (A : At f 0 id pre x m k post) : ∀ r ∈ rows (del f id) 0, r ∈ rows f 0 := by
  intro r hr
  rw [A.cut] at hr
  rw [A.eq]
  rcases List.mem_append.1 hr with q | q
  · exact List.mem_append_left _ q
  · exact List.mem_append_right _ (List.mem_cons_of_mem _ (List.mem_append_right _ q))
theorem del_iff {f : F} {id : Int} {pre : List Row} {x : Itm} {m : Int} {k : F} {post : List Row} (hd : (ids f).Nodup) (A : At f 0 id pre x m k post) (to : Int) (ht : to ∈ ids f) : to ∈ ids (del f id) ↔ to ∉ ids (sub f id) := by
  have e : ids f = pre.map (·.1) ++ ((id :: ids k) ++ post.map (·.1)) := by
    rw [← rows_ids f 0, A.eq, List.map_append, List.map_cons, List.map_append, rows_ids]
    rfl
  have e2 : ids (del f id) = pre.map (·.1) ++ post.map (·.1) := by rw [← rows_ids _ 0, A.cut, List.map_append]
  rw [e] at hd ht
  rw [List.nodup_append] at hd
  obtain ⟨n1, n2, n3⟩ := hd
  rw [List.nodup_append] at n2
  obtain ⟨n4, n5, n6⟩ := n2
  rw [e2, ids_sub_at A]
  constructor
  · intro h q
    rcases List.mem_append.1 h with h | h
    · exact n3 _ h _ (List.mem_append_left _ q) rfl
    · exact n6 _ q _ h rfl
  · intro h
    rcases List.mem_append.1 ht with q | q
    · exact List.mem_append_left _ q
    · rcases List.mem_append.1 q with q | q
      · exact absurd q h
      · exact List.mem_append_right _ q
theorem move_same {f : F} {nx : Int} (hd : (ids f).Nodup) (id to at' : Int) : moveR ⟨rows f 0, nx⟩ id to at' = (⟨rows (moveF f id to at').1 0, nx⟩, (moveF f id to at').2) := by
  by_cases hi : id ∈ ids f
  · by_cases ht : to ∈ ids f
    · obtain ⟨pre, x, m, k, post, A⟩ := at_of f 0 id hd hi
      obtain ⟨pre', x', m', k', post', B⟩ := at_of f 0 to hd ht
      have hl : (itemAt (rows f 0) pre.length).level = m := by rw [A.item]; rfl
      have hl' : (itemAt (rows f 0) pre'.length).level = m' := by rw [B.item]; rfl
      have hk' : (itemAt (rows f 0) pre'.length).kind = x'.kind := by rw [B.item]; rfl
      have hno : ¬ (id ∉ ids f ∨ to ∉ ids f) := by simp [hi, ht]
      have hin := inside_num hd A B
      unfold moveR moveF
      simp only [A.find, B.find, if_neg hno, hl, hl', hk', Option.some.injEq, A.without, A.part, B.tree, Option.getD_some]
      by_cases hk0 : pre.length = 0
      · rw [if_pos hk0, if_pos hk0]
      · rw [if_neg hk0, if_neg hk0]
        by_cases hins : to ∈ ids (sub f id)
        · have hnd : to ∉ ids (del f id) := fun q => (del_iff hd A to ht).1 q hins
          rw [if_pos (hin.2 hins), sub_none _ _ hnd]
          simp only
          by_cases hkd : x'.kind ≠ 1
          · rw [if_pos hkd, if_pos hkd]
          · rw [if_neg hkd, if_neg hkd]
        · have hmem : to ∈ ids (del f id) := (del_iff hd A to ht).2 hins
          obtain ⟨pre2, x2, m2, k2, post2, C⟩ := at_of (del f id) 0 to (del_nodup id hd) hmem
          have hnd : ((rows f 0).map (·.1)).Nodup := by rw [rows_ids]; exact hd
          have hx : atL x2 m2 = atL x' m' := uniq_row hnd (del_mem A _ C.mem) B.mem
          have hm : m2 = m' := congrArg Itm.level hx
          have hl2 : (itemAt (rows (del f id) 0) pre2.length).level = m2 := by rw [C.item]; rfl
          rw [if_neg (fun q => hins (hin.1 q)), C.tree]
          simp only [C.find, hl2, C.kids.1]
          by_cases hkd : x'.kind ≠ 1
          · rw [if_pos hkd, if_pos hkd]
          · rw [if_neg hkd, if_neg hkd]
            have hib : insideB f id to = false := by unfold insideB; simpa using hins
            rw [hib]
            simp only [Bool.false_eq_true, if_false]
            by_cases hat : at' < 0 ∨ ((tops k2).length : Int) < at'
            · rw [if_pos hat, if_pos hat]
            · rw [if_neg hat, if_neg hat]
              have hsh : lessR (m - m' - 1) (rows (some ⟨id, x, k, none⟩) m) = rows (some ⟨id, x, k, none⟩) (m' + 1) := by
                unfold lessR
                rw [rows_shift, show m - (m - m' - 1) = m' + 1 by omega]
              rw [hsh, A.tree]
              split
              · rfl
              · simp only [Prod.mk.injEq, and_true, Tr.mk.injEq]
                rw [← C.laid at'.toNat (by omega), hm]
    · have hn : findN (rows f 0) to = none := find_none (by rw [rows_ids]; exact ht)
      obtain ⟨pre, x, m, k, post, A⟩ := at_of f 0 id hd hi
      unfold moveR moveF
      simp only [A.find, hn, if_pos (Or.inr ht)]
  · have hn : findN (rows f 0) id = none := find_none (by rw [rows_ids]; exact hi)
    unfold moveR moveF
    simp only [hn, if_pos (Or.inl hi)]
end T
end Go.Proofs.YtidccohjehegjaaDoor
namespace Go.Proofs.YtidccohjehegjaaDoor
namespace T
open P L
/-- May all nodes be, those on top at a level? -/
def okT : F → Int → Prop
  | none, _ => True
  | some ⟨_, x, k, s⟩, n => partsE x = 0 ∧ n < 40 ∧ (x.kind = 2 → k = none) ∧ okT k (n + 1) ∧ okT s n
theorem ok_none (n : Int) : okT none n := by simp [okT]
theorem ok_cons {i : Int} {x : Itm} {k s : F} {n : Int} : okT (some ⟨i, x, k, s⟩) n ↔ partsE x = 0 ∧ n < 40 ∧ (x.kind = 2 → k = none) ∧ okT k (n + 1) ∧ okT s n := by rw [okT]
theorem parts_at (x : Itm) (n : Int) : partsE (atL x n) = partsE x := rfl
theorem ok_app : ∀ (f g : F) (n : Int), okT (app f g) n ↔ okT f n ∧ okT g n
  | none, _, _ => by simp [app, okT]
  | some ⟨id, x, k, s⟩, g, n => by
    simp only [app, okT, ok_app s g n]
    constructor
    · rintro ⟨a, b, c, d, e, h⟩; exact ⟨⟨a, b, c, d, e⟩, h⟩
    · rintro ⟨⟨a, b, c, d, e⟩, h⟩; exact ⟨a, b, c, d, e, h⟩
theorem ok_insAt {f g : F} {n : Int} (a : Nat) (hf : okT f n) (hg : okT g n) : okT (insAt f a g) n := by
  rw [ins_at, ok_app, ok_app]
  rw [← take_drop f a, ok_app] at hf
  exact ⟨hf.1, hg, hf.2⟩
/-- A node's level. -/
def levF : F → Int → Int → Option Int
  | none, _, _ => none
  | some ⟨i, _, k, s⟩, n, id => if i = id then some n else match levF k (n + 1) id with
    | some m => some m
    | none => levF s n id
theorem lev_none : ∀ (f : F) (n id : Int), id ∉ ids f → levF f n id = none
  | none, _, _, _ => by simp [levF]
  | some ⟨i, x, k, s⟩, n, id, h => by
    simp only [ids, List.mem_cons, List.mem_append, not_or] at h
    unfold levF
    rw [if_neg (fun q => h.1 q.symm), lev_none k _ id h.2.1]
    exact lev_none s n id h.2.2
theorem ok_ins : ∀ (f : F) (n p : Int) (a : Nat) (g : F), (ids f).Nodup → okT f n → (∀ m, levF f n p = some m → okT g (m + 1)) → (∀ y k s, sub f p = some ⟨p, y, k, s⟩ → y.kind ≠ 2) → okT (ins f p a g) n
  | none, _, _, _, _, _, _, _, _ => by simp [ins, okT]
  | some ⟨i, x, k, s⟩, n, p, a, g, hd, h, hg, hk => by
    simp only [ids, List.nodup_cons, List.mem_append, not_or] at hd
    rw [List.nodup_append] at hd
    obtain ⟨⟨d1, d2⟩, d3, d4, d5⟩ := hd
    obtain ⟨h1, h2, h3, h4, h5⟩ := ok_cons.1 h
    unfold ins
    split
    · rename_i hi
      subst hi
      have hx : x.kind ≠ 2 := hk x k none (by simp [sub])
      exact ok_cons.2 ⟨h1, h2, fun q => absurd q hx, ok_insAt a h4 (hg n (by simp [levF])), h5⟩
    · rename_i hi
      refine ok_cons.2 ⟨h1, h2, fun q => ?_, ?_, ?_⟩
      · rw [h3 q]; simp [ins]
      · by_cases hp : p ∈ ids k
        · refine ok_ins k (n + 1) p a g d3 h4 (fun m hm => hg m (by rw [levF, if_neg hi, hm])) (fun y kk ss e => hk y kk ss ?_)
          rw [sub, if_neg hi, e]
        · rw [ins_none k p a g hp]; exact h4
      · by_cases hp : p ∈ ids s
        · have hnk : p ∉ ids k := fun q => d5 _ q _ hp rfl
          refine ok_ins s n p a g d4 h5 (fun m hm => hg m (by rw [levF, if_neg hi, lev_none k _ p hnk]; exact hm)) (fun y kk ss e => hk y kk ss ?_)
          rw [sub, if_neg hi, sub_none k p hnk]
          exact e
        · rw [ins_none s p a g hp]; exact h5
theorem ok_del : ∀ (f : F) (n d : Int), okT f n → okT (del f d) n
  | none, _, _, _ => by simp [del, okT]
  | some ⟨i, x, k, s⟩, n, d, h => by
    obtain ⟨h1, h2, h3, h4, h5⟩ := ok_cons.1 h
    unfold del
    split
    · exact h5
    · exact ok_cons.2 ⟨h1, h2, fun q => by rw [h3 q]; simp [del], ok_del k _ d h4, ok_del s _ d h5⟩
theorem ok_upd : ∀ (f : F) (n id : Int) (h : Itm → Itm), okT f n → (∀ y, partsE y = 0 → y.kind = (h y).kind) → (∀ y k s, sub f id = some ⟨id, y, k, s⟩ → partsE (h y) = 0) → (ids f).Nodup → okT (upd f id h) n
  | none, _, _, _, _, _, _, _ => by simp [upd, okT]
  | some ⟨i, x, k, s⟩, n, id, h, ok, hk, hp, hd => by
    simp only [ids, List.nodup_cons, List.mem_append, not_or] at hd
    rw [List.nodup_append] at hd
    obtain ⟨⟨d1, d2⟩, d3, d4, d5⟩ := hd
    obtain ⟨h1, h2, h3, h4, h5⟩ := ok_cons.1 ok
    unfold upd
    split
    · rename_i hi
      subst hi
      exact ok_cons.2 ⟨hp x k none (by simp [sub]), h2, fun q => h3 (by rw [hk x h1]; exact q), h4, h5⟩
    · rename_i hi
      refine ok_cons.2 ⟨h1, h2, fun q => by rw [h3 q]; simp [upd], ?_, ?_⟩
      · by_cases hp' : id ∈ ids k
        · refine ok_upd k _ id h h4 hk (fun y kk ss e => hp y kk ss ?_) d3
          rw [sub, if_neg hi, e]
        · rw [upd_none k id h hp']; exact h4
      · by_cases hp' : id ∈ ids s
        · have hnk : id ∉ ids k := fun q => d5 _ q _ hp' rfl
          refine ok_upd s _ id h h5 hk (fun y kk ss e => hp y kk ss ?_) d4
          rw [sub, if_neg hi, sub_none k id hnk]
          exact e
        · rw [upd_none s id h hp']; exact h5
/-- The rows of a forest that may be stand as a document's do. -/
theorem ok_check : ∀ (f : F) (n : Int) (prev : Itm) (j : Nat) (rest : List Itm), okT f n → 1 ≤ n → n ≤ prev.level + (if prev.kind = 1 then 1 else 0) → (∀ p : Itm, n ≤ p.level → checkF (some p) (j + (rows f n).length) rest = (0, 0)) → (rows f n = [] → checkF (some prev) j rest = (0, 0)) → j + (rows f n).length ≤ 1000 → checkF (some prev) j ((rows f n).map (·.2) ++ rest) = (0, 0)
  | none, _, _, _, _, _, _, _, _, h, _ => by simpa [rows] using h (by simp [rows])
  | some ⟨i, x, k, s⟩, n, prev, j, rest, ok, hn, hp, hr, _, hj => by
    obtain ⟨h1, h2, h3, h4, h5⟩ := ok_cons.1 ok
    simp only [rows, List.length_cons, List.length_append] at hj hr
    have hi : itemE (some prev) j (atL x n) = 0 := by
      refine item_mk ?_ h2 (by omega) h1
      unfold standsB
      simp only [Bool.and_eq_true, decide_eq_true_eq]
      exact ⟨hn, hp⟩
    simp only [rows, List.map_cons, List.map_append, List.cons_append, List.append_assoc]
    rw [checkF, if_neg (by simp [hi])]
    -- the kids, then the trees behind
    have tail : ∀ p : Itm, n ≤ p.level → checkF (some p) (j + 1 + (rows k (n + 1)).length) ((rows s n).map (·.2) ++ rest) = (0, 0) := by
      intro p hpl
      refine ok_check s n p _ rest h5 hn (by split <;> omega) (fun q hq => ?_) (fun e => ?_) (by omega)
      · have := hr q hq
        rw [show j + 1 + (rows k (n + 1)).length + (rows s n).length = j + ((rows k (n + 1)).length + (rows s n).length + 1) by omega]
        exact this
      · have := hr p hpl
        rw [e] at this
        simp only [List.length_nil] at this
        rw [show j + 1 + (rows k (n + 1)).length = j + ((rows k (n + 1)).length + 0 + 1) by omega]
        exact this
    by_cases hk : k = none
    · subst hk
      have := tail (atL x n) (Int.le_refl _)
      simpa [rows] using this
    · have hkind : x.kind = 1 := by
        rcases parts_kind h1 with q | q
        · exact q
        · exact absurd (h3 q) hk
      refine ok_check k (n + 1) (atL x n) (j + 1) _ h4 (by omega) ?_ (fun p hpl => tail p (by omega)) (fun e => ?_) (by omega)
      · show n + 1 ≤ n + (if x.kind = 1 then 1 else 0)
        rw [if_pos hkind]
        exact Int.le_refl _
      · have := tail (atL x n) (Int.le_refl _)
        rw [e] at this
        simpa using this
/-- A tree with one root that may be is a document. -/
theorem tree_doc {i : Int} {x : Itm} {k : F} (ok : okT (some ⟨i, x, k, none⟩) 0) (hk : x.kind = 1) (hl : (rows (some ⟨i, x, k, none⟩) 0).length ≤ 1000) : checkP ((rows (some ⟨i, x, k, none⟩) 0).map (·.2)) = (0, 0) := by
  obtain ⟨h1, h2, h3, h4, _⟩ := ok_cons.1 ok
  have hi : itemE none 0 (atL x 0) = 0 := by
    refine item_mk ?_ h2 (by omega) h1
    unfold standsB
    simp [atL, hk]
  simp only [rows, List.length_cons, List.append_nil] at hl ⊢
  unfold checkP
  rw [if_neg (by simp), List.map_cons, checkF, if_neg (by simp [hi])]
  have := ok_check k 1 (atL x 0) 1 [] h4 (by omega) (by show (1 : Int) ≤ 0 + _; rw [show (atL x 0).kind = 1 from hk]; simp) (fun _ _ => rfl) (fun _ => rfl) (by simp only [show (0 : Int) + 1 = 1 from rfl] at hl; omega)
  simpa using this
end T
end Go.Proofs.YtidccohjehegjaaDoor
namespace Go.Proofs.YtidccohjehegjaaDoor
namespace T
open P L
/-- Nothing is in a text. -/
def textStop : List Row → Prop
  | r :: q :: l => (r.2.kind = 2 → q.2.level ≤ r.2.level) ∧ textStop (q :: l)
  | _ => True
theorem stop_tail {r : Row} {l : List Row} (h : textStop (r :: l)) : textStop l := by
  cases l with
  | nil => trivial
  | cons q t => exact h.2
theorem stop_take (p : Row → Bool) : ∀ (l : List Row), textStop l → textStop (l.takeWhile p)
  | [], _ => trivial
  | [r], _ => by
    by_cases h : p r = true
    · rw [List.takeWhile_cons_of_pos h]; trivial
    · rw [List.takeWhile_cons_of_neg h]; trivial
  | r :: q :: l, h => by
    by_cases hr : p r = true
    · rw [List.takeWhile_cons_of_pos hr]
      have ih := stop_take p (q :: l) h.2
      by_cases hq : p q = true
      · rw [List.takeWhile_cons_of_pos hq] at ih ⊢
        exact ⟨h.1, ih⟩
      · rw [List.takeWhile_cons_of_neg hq]
        trivial
    · rw [List.takeWhile_cons_of_neg hr]
      trivial
theorem stop_drop (p : Row → Bool) : ∀ (l : List Row), textStop l → textStop (l.dropWhile p)
  | [], _ => trivial
  | r :: l, h => by
    by_cases hr : p r = true
    · rw [List.dropWhile_cons_of_pos hr]
      exact stop_drop p l (stop_tail h)
    · rw [List.dropWhile_cons_of_neg hr]
      exact h
theorem build_nil (f : Nat) (n : Int) : build f n [] = none := by cases f <;> simp [build]
theorem build_ok : ∀ (f : Nat) (n : Int) (l : List Row), l.length ≤ f → stairs n n l → textStop l → (∀ r ∈ l, partsE r.2 = 0 ∧ r.2.level < 40) → okT (build f n l) n
  | 0, _, _, _, _, _, _ => by simp [build, okT]
  | _ + 1, _, [], _, _, _, _ => by simp [build, okT]
  | f + 1, n, r :: l, h, hs, ht, hp => by
    have hl : l.length ≤ f := by simpa using h
    have h1 : (l.takeWhile fun q => decide (n < q.2.level)).length ≤ f := Nat.le_trans (List.takeWhile_prefix _).length_le hl
    have h2 : (l.dropWhile fun q => decide (n < q.2.level)).length ≤ f := Nat.le_trans (List.dropWhile_suffix _).length_le hl
    have hn : r.2.level = n := by have := hs.1; have := hs.2.1; omega
    have s1 : stairs (n + 1) (n + 1) (l.takeWhile fun q => decide (n < q.2.level)) := stairs_take l _ (by have := hs.2.2; rw [hn] at this; exact this) (Or.inr trivial)
    have s2 := stairs_drop l _ hs.2.2
    obtain ⟨p1, p2⟩ := hp r (List.mem_cons_self ..)
    unfold build
    refine ok_cons.2 ⟨p1, by omega, fun q => ?_, build_ok f (n + 1) _ h1 s1 (stop_take _ _ (stop_tail ht)) (fun z hz => hp z (List.mem_cons_of_mem _ ((List.takeWhile_prefix _).subset hz))), build_ok f n _ h2 s2 (stop_drop _ _ (stop_tail ht)) (fun z hz => hp z (List.mem_cons_of_mem _ ((List.dropWhile_suffix _).subset hz)))⟩
    have e : (l.takeWhile fun q => decide (n < q.2.level)) = [] := by
      cases l with
      | nil => rfl
      | cons z t =>
        have := ht.1 q
        rw [List.takeWhile_cons_of_neg (by simp only [decide_eq_true_eq]; omega)]
    rw [e, build_nil]
theorem deepest_ge : ∀ (l : List Itm) (a : Int), a ≤ l.foldl (fun a x => max a x.level) a ∧ ∀ x ∈ l, x.level ≤ l.foldl (fun a x => max a x.level) a
  | [], a => ⟨Int.le_refl _, by simp⟩
  | y :: l, a => by
    obtain ⟨h1, h2⟩ := deepest_ge l (max a y.level)
    rw [List.foldl_cons]
    refine ⟨by omega, fun x hx => ?_⟩
    rcases List.mem_cons.1 hx with q | q
    · rw [q]; omega
    · exact h2 x q
theorem forest_parts : ∀ (l : List Itm) (prev : Option Itm), forestF prev l = 0 → ∀ x ∈ l, partsE x = 0 ∧ 0 ≤ x.level
  | [], _, _, _, h => by cases h
  | y :: l, prev, h, x, hx => by
    unfold forestF at h
    split at h
    · simp at h
    · rename_i h1
      split at h
      · rename_i h2; exact absurd h h2
      · rename_i h2
        rcases List.mem_cons.1 hx with q | q
        · rw [q]
          refine ⟨by simpa using h2, ?_⟩
          rcases Int.lt_or_le y.level 0 with r | r
          · exact absurd (Or.inl r) h1
          · exact r
        · exact forest_parts l (some y) h x q
theorem named_parts : ∀ (l : List Itm) (nx d : Int), (∀ x ∈ l, partsE x = 0 ∧ x.level + d < 40) → ∀ r ∈ named nx d l, partsE r.2 = 0 ∧ r.2.level < 40
  | [], _, _, _, _, h => by cases h
  | x :: l, nx, d, h, r, hr => by
    rw [named] at hr
    rcases List.mem_cons.1 hr with q | q
    · rw [q]; exact h x (List.mem_cons_self ..)
    · exact named_parts l (nx + 1) d (fun z hz => h z (List.mem_cons_of_mem _ hz)) r q
theorem named_stop : ∀ (l : List Itm) (prev : Option Itm) (nx d : Int), forestF prev l = 0 → textStop (named nx d l)
  | [], _, _, _, _ => trivial
  | [x], _, _, _, _ => trivial
  | x :: y :: l, prev, nx, d, h => by
    have h' : forestF (some x) (y :: l) = 0 := by
      unfold forestF at h
      split at h
      · simp at h
      · split at h
        · rename_i h2; exact absurd h h2
        · exact h
    have ih := named_stop (y :: l) (some x) (nx + 1) d h'
    refine ⟨fun q => ?_, ih⟩
    have hk : x.kind = 2 := q
    unfold forestF at h'
    split at h'
    · simp at h'
    · rename_i h1
      have : ¬ topF (some x) < y.level := fun r => h1 (Or.inr r)
      have e : topF (some x) = x.level := by show x.level + (if x.kind = 2 then 0 else 1) = x.level; rw [if_pos hk]; omega
      show y.level + d ≤ x.level + d
      omega
theorem forest_ok {l : List Itm} (nx d : Int) (h : forestF none l = 0) (hd : d + deepest l < 40) : okT (forestOf nx d l) d := by
  have hs := forest_stairs l none nx d h
  rw [show d + topS none = d by simp [topS]] at hs
  refine build_ok _ _ _ (by rw [named_len]; exact Nat.le_refl _) hs (named_stop l none nx d h) (named_parts l nx d fun x hx => ⟨(forest_parts l none h x hx).1, ?_⟩)
  have := (deepest_ge l 0).2 x hx
  unfold deepest at hd
  omega
/-- A document's items may be put in. -/
theorem check_forest : ∀ (l : List Itm) (p : Itm) (k : Nat), (p.kind = 1 ∨ p.kind = 2) → checkF (some p) k l = (0, 0) → forestF (some p) l = 0 ∧ ∀ x ∈ l, 1 ≤ x.level ∧ x.level < 40
  | [], _, _, _, _ => ⟨rfl, by simp⟩
  | x :: l, p, k, hp, h => by
    have hi : itemE (some p) k x = 0 := by
      unfold checkF at h
      split at h
      · rename_i q
        simp only [Prod.mk.injEq] at h
        exact absurd h.2 q
      · rename_i q; simpa using q
    have hr : checkF (some x) (k + 1) l = (0, 0) := by
      unfold checkF at h
      rwa [if_neg (by simp [hi])] at h
    obtain ⟨o1, o2, o3, o4⟩ := item_ok hi
    unfold standsB at o1
    simp only [Bool.and_eq_true, decide_eq_true_eq] at o1
    obtain ⟨i1, i2⟩ := check_forest l x (k + 1) (parts_kind o4) hr
    constructor
    · unfold forestF
      rw [if_neg, if_neg (by simp [o4]), i1]
      rintro (q | q)
      · omega
      · have e : topF (some p) = p.level + if p.kind = 2 then 0 else 1 := rfl
        rw [e] at q
        rcases hp with r | r
        · rw [r] at q o1; simp at q o1; omega
        · rw [r] at q o1; simp at q o1; omega
    · intro y hy
      rcases List.mem_cons.1 hy with q | q
      · rw [q]; exact ⟨o1.1, o2⟩
      · exact i2 y q
theorem named_levels : ∀ (l : List Itm) (nx d : Int) (c : Int), (∀ x ∈ l, c ≤ x.level) → ∀ r ∈ named nx d l, c + d ≤ r.2.level
  | [], _, _, _, _, _, h => by cases h
  | x :: l, nx, d, c, h, r, hr => by
    rw [named] at hr
    rcases List.mem_cons.1 hr with q | q
    · rw [q]; have := h x (List.mem_cons_self ..); show c + d ≤ x.level + d; omega
    · exact named_levels l (nx + 1) d c (fun z hz => h z (List.mem_cons_of_mem _ hz)) r q
theorem drop_all (p : Row → Bool) : ∀ (l : List Row), (∀ r ∈ l, p r = true) → l.dropWhile p = []
  | [], _ => rfl
  | r :: l, h => by
    rw [List.dropWhile_cons_of_pos (h r (List.mem_cons_self ..))]
    exact drop_all p l fun z hz => h z (List.mem_cons_of_mem _ hz)
/-- A document is a tree with one root. -/
theorem load_tree {l : List Itm} (nx : Int) (h : checkP l = (0, 0)) : forestF none l = 0 ∧ ∃ x k, forestOf nx 0 l = some ⟨nx, x, k, none⟩ ∧ x.kind = 1 ∧ okT (forestOf nx 0 l) 0 := by
  cases l with
  | nil => simp [checkP] at h
  | cons x l =>
    have h' : checkF none 0 (x :: l) = (0, 0) := by
      unfold checkP at h
      rwa [if_neg (by simp)] at h
    have hi : itemE none 0 x = 0 := by
      unfold checkF at h'
      split at h'
      · rename_i q
        simp only [Prod.mk.injEq] at h'
        exact absurd h'.2 q
      · rename_i q; simpa using q
    have hr : checkF (some x) 1 l = (0, 0) := by
      unfold checkF at h'
      rwa [if_neg (by simp [hi])] at h'
    obtain ⟨o1, o2, o3, o4⟩ := item_ok hi
    have hk : x.level = 0 ∧ x.kind = 1 := by unfold standsB at o1; simpa using o1
    obtain ⟨c1, c2⟩ := check_forest l x 1 (Or.inl hk.2) hr
    have hf : forestF none (x :: l) = 0 := by
      unfold forestF
      rw [if_neg, if_neg (by simp [o4]), c1]
      rintro (q | q)
      · omega
      · have e : topF none = 0 := rfl
        omega
    refine ⟨hf, ?_⟩
    have hdrop : ((named (nx + 1) 0 l).dropWhile fun q => decide (0 < q.2.level)) = [] := by
      refine drop_all _ _ fun r hr => ?_
      have := named_levels l (nx + 1) 0 1 (fun z hz => (c2 z hz).1) r hr
      simp only [decide_eq_true_eq]
      omega
    have e : forestOf nx 0 (x :: l) = some ⟨nx, { x with level := x.level + 0 }, build l.length (0 + 1) ((named (nx + 1) 0 l).takeWhile fun q => decide (0 < q.2.level)), none⟩ := by
      unfold forestOf
      rw [List.length_cons, named, build, hdrop, build_nil]
    refine ⟨_, _, e, hk.2, forest_ok nx 0 hf ?_⟩
    have key : ∀ (l : List Itm) (a : Int), a < 40 → (∀ x ∈ l, x.level < 40) → l.foldl (fun a x => max a x.level) a < 40 := by
      intro l
      induction l with
      | nil => intro a h _; exact h
      | cons y t ih =>
        intro a ha hl
        rw [List.foldl_cons]
        exact ih _ (by have := hl y (List.mem_cons_self ..); omega) (fun z hz => hl z (List.mem_cons_of_mem _ hz))
    have := key (x :: l) 0 (by decide) (fun z hz => by
      rcases List.mem_cons.1 hz with q | q
      · rw [q]; exact o2
      · exact (c2 z q).2)
    unfold deepest
    omega
theorem lev_row : ∀ (f : F) (n id : Int), (ids f).Nodup → id ∈ ids f → ∃ m y, levF f n id = some m ∧ (id, atL y m) ∈ rows f n
  | none, _, _, _, h => by simp [ids] at h
  | some ⟨i, x, k, s⟩, n, id, hd, h => by
    simp only [ids, List.nodup_cons, List.mem_append, not_or] at hd
    rw [List.nodup_append] at hd
    obtain ⟨⟨d1, d2⟩, d3, d4, d5⟩ := hd
    by_cases hi : i = id
    · subst hi
      exact ⟨n, x, by simp [levF], by simp [rows]⟩
    · simp only [ids, List.mem_cons, List.mem_append] at h
      rcases h with h | h | h
      · exact absurd h.symm hi
      · obtain ⟨m, y, e1, e2⟩ := lev_row k (n + 1) id d3 h
        exact ⟨m, y, by rw [levF, if_neg hi, e1], by simp [rows, e2]⟩
      · have hnk : id ∉ ids k := fun q => d5 _ q _ h rfl
        obtain ⟨m, y, e1, e2⟩ := lev_row s n id d4 h
        exact ⟨m, y, by rw [levF, if_neg hi, lev_none k _ id hnk]; exact e1, by simp [rows, e2]⟩
/-- A node's level, where it stands. -/
theorem At.level {f : F} {n id : Int} {pre : List Row} {x : Itm} {m : Int} {k : F} {post : List Row} (A : At f n id pre x m k post) (hd : (ids f).Nodup) : levF f n id = some m := by
  obtain ⟨m', y, e1, e2⟩ := lev_row f n id hd (mem_rows A.mem)
  have hnd : ((rows f n).map (·.1)).Nodup := by rw [rows_ids]; exact hd
  have := uniq_row hnd A.mem e2
  rw [e1, show m' = m from (congrArg Itm.level this).symm]
end T
end Go.Proofs.YtidccohjehegjaaDoor
namespace Go.Proofs.YtidccohjehegjaaDoor
namespace T
open P L
/-- A node's place among those on top. -/
def placeN : F → Int → Nat
  | none, _ => 0
  | some ⟨i, _, _, s⟩, id => if i = id then 0 else placeN s id + 1
theorem place_at : ∀ (f : F) (id : Int), id ∈ tops f → (tops f)[placeN f id]? = some id
  | none, _, h => by simp [tops] at h
  | some ⟨i, x, k, s⟩, id, h => by
    unfold placeN
    split
    · rename_i q; simp [tops, q]
    · rename_i q
      simp only [tops, List.mem_cons] at h
      rcases h with h | h
      · exact absurd h.symm q
      · rw [tops, List.getElem?_cons_succ]
        exact place_at s id h
theorem sub_top : ∀ (f : F) (id : Int), (ids f).Nodup → id ∈ tops f → ∃ x k, sub f id = some ⟨id, x, k, none⟩ ∧ insAt (del f id) (placeN f id) (some ⟨id, x, k, none⟩) = f
  | none, _, _, h => by simp [tops] at h
  | some ⟨i, x, k, s⟩, id, hd, h => by
    simp only [ids, List.nodup_cons, List.mem_append, not_or] at hd
    rw [List.nodup_append] at hd
    obtain ⟨⟨d1, d2⟩, d3, d4, d5⟩ := hd
    by_cases hi : i = id
    · subst hi
      refine ⟨x, k, by simp [sub], ?_⟩
      rw [del, if_pos rfl, placeN, if_pos rfl, insAt]
      simp [app]
    · simp only [tops, List.mem_cons] at h
      rcases h with h | h
      · exact absurd h.symm hi
      · have hnk : id ∉ ids k := fun q => d5 _ q _ (tops_ids s id h) rfl
        obtain ⟨y, kk, e1, e2⟩ := sub_top s id d4 h
        refine ⟨y, kk, ?_, ?_⟩
        · rw [sub, if_neg hi, sub_none k id hnk]
          exact e1
        · rw [del, if_neg hi, del_none k id hnk, placeN, if_neg hi, insAt, e2]
/-- The kids of a node. -/
def kidsF (f : F) (p : Int) : F := match sub f p with
  | none => none
  | some ⟨_, _, k, _⟩ => k
theorem par_mem : ∀ (f : F) (id p : Int), parF f id = some p → p ∈ ids f ∧ id ∈ ids f
  | none, _, _, h => by simp [parF] at h
  | some ⟨i, x, k, s⟩, id, p, h => by
    unfold parF at h
    simp only [ids, List.mem_cons, List.mem_append]
    split at h
    · rename_i q
      simp only [Option.some.injEq] at h
      exact ⟨Or.inl h.symm, Or.inr (Or.inl (tops_ids k id q))⟩
    · cases hk : parF k id with
      | some r =>
        rw [hk] at h
        simp only [Option.some.injEq] at h
        subst h
        have := par_mem k id r hk
        exact ⟨Or.inr (Or.inl this.1), Or.inr (Or.inl this.2)⟩
      | none =>
        rw [hk] at h
        have := par_mem s id p h
        exact ⟨Or.inr (Or.inr this.1), Or.inr (Or.inr this.2)⟩
/-- What is taken out, and put in where it was. -/
theorem ins_del : ∀ (f : F) (id p : Int), (ids f).Nodup → parF f id = some p → id ∈ tops (kidsF f p) ∧ ins (del f id) p (placeN (kidsF f p) id) (sub f id) = f
  | none, _, _, _, h => by simp [parF] at h
  | some ⟨i, x, k, s⟩, id, p, hd, h => by
    have hd0 := hd
    simp only [ids, List.nodup_cons, List.mem_append, not_or] at hd
    rw [List.nodup_append] at hd
    obtain ⟨⟨d1, d2⟩, d3, d4, d5⟩ := hd
    unfold parF at h
    split at h
    · rename_i ht
      simp only [Option.some.injEq] at h
      subst h
      have hik : id ∈ ids k := tops_ids k id ht
      have hi : i ≠ id := fun q => d1 (q ▸ hik)
      have hns : id ∉ ids s := fun q => d5 _ hik _ q rfl
      have hkf : kidsF (some ⟨i, x, k, s⟩) i = k := by unfold kidsF; simp [sub]
      obtain ⟨y, kk, e1, e2⟩ := sub_top k id d3 ht
      rw [hkf]
      refine ⟨ht, ?_⟩
      rw [del, if_neg hi, del_none s id hns, ins, if_pos rfl, sub, if_neg hi, e1]
      simp only
      rw [e2]
    · rename_i ht
      cases hk : parF k id with
      | some r =>
        rw [hk] at h
        simp only [Option.some.injEq] at h
        subst h
        obtain ⟨m1, m2⟩ := par_mem k id r hk
        have hi : i ≠ id := fun q => d1 (q ▸ m2)
        have hir : i ≠ r := fun q => d1 (q ▸ m1)
        have hns : id ∉ ids s := fun q => d5 _ m2 _ q rfl
        have hnr : r ∉ ids s := fun q => d5 _ m1 _ q rfl
        obtain ⟨i1, i2⟩ := ins_del k id r d3 hk
        obtain ⟨pre, y, m, kk, post, A⟩ := at_of k 0 r d3 m1
        have hkf : kidsF (some ⟨i, x, k, s⟩) r = kidsF k r := by
          unfold kidsF
          rw [sub, if_neg hir, A.tree]
        have hsb : sub (some ⟨i, x, k, s⟩) id = sub k id := by
          obtain ⟨pre, y, m, kk, post, B⟩ := at_of k 0 id d3 m2
          rw [sub, if_neg hi, B.tree]
        rw [hkf, hsb]
        refine ⟨i1, ?_⟩
        rw [del, if_neg hi, del_none s id hns, ins, if_neg hir, i2, ins_none s r _ _ hnr]
      | none =>
        rw [hk] at h
        obtain ⟨m1, m2⟩ := par_mem s id p h
        have hi : i ≠ id := fun q => d2 (q ▸ m2)
        have hir : i ≠ p := fun q => d2 (q ▸ m1)
        have hnk : id ∉ ids k := fun q => d5 _ q _ m2 rfl
        have hnr : p ∉ ids k := fun q => d5 _ q _ m1 rfl
        obtain ⟨i1, i2⟩ := ins_del s id p d4 h
        have hkf : kidsF (some ⟨i, x, k, s⟩) p = kidsF s p := by
          unfold kidsF
          rw [sub, if_neg hir, sub_none k p hnr]
        have hsb : sub (some ⟨i, x, k, s⟩) id = sub s id := by rw [sub, if_neg hi, sub_none k id hnk]
        rw [hkf, hsb]
        refine ⟨i1, ?_⟩
        rw [del, if_neg hi, del_none k id hnk, ins, if_neg hir, ins_none k p _ _ hnr, i2]
theorem sub_app : ∀ (f g : F) (id : Int), id ∉ ids f → sub (app f g) id = sub g id
  | none, _, _, _ => by simp [app]
  | some ⟨i, x, k, s⟩, g, id, h => by
    simp only [ids, List.mem_cons, List.mem_append, not_or] at h
    simp only [app]
    rw [sub, if_neg (fun q => h.1 q.symm), sub_none k id h.2.1]
    exact sub_app s g id h.2.2
theorem sub_insAt (k : F) (a : Nat) (i : Int) (x : Itm) (kk : F) (h : i ∉ ids k) : sub (insAt k a (some ⟨i, x, kk, none⟩)) i = some ⟨i, x, kk, none⟩ := by
  rw [ins_at, sub_app _ _ _ (fun q => h (ids_take k a i q))]
  simp [app, sub]
theorem sub_ins : ∀ (f : F) (p : Int) (a : Nat) (i : Int) (x : Itm) (kk : F), (ids f).Nodup → p ∈ ids f → i ∉ ids f → sub (ins f p a (some ⟨i, x, kk, none⟩)) i = some ⟨i, x, kk, none⟩
  | none, _, _, _, _, _, _, h, _ => by simp [ids] at h
  | some ⟨j, y, k, t⟩, p, a, i, x, kk, hd, hp, h => by
    simp only [ids, List.nodup_cons, List.mem_append, not_or] at hd
    rw [List.nodup_append] at hd
    simp only [ids, List.mem_cons, List.mem_append, not_or] at h
    have hj : j ≠ i := fun q => h.1 q.symm
    unfold ins
    split
    · rw [sub, if_neg hj, sub_insAt k a i x kk h.2.1]
    · rename_i hjp
      simp only [ids, List.mem_cons, List.mem_append] at hp
      rcases hp with hp | hp | hp
      · exact absurd hp.symm hjp
      · rw [sub, if_neg hj, sub_ins k p a i x kk hd.2.1 hp h.2.1]
      · have hnk : p ∉ ids k := fun q => hd.2.2.2 _ q _ hp rfl
        rw [ins_none k p _ _ hnk, sub, if_neg hj, sub_none k i h.2.1]
        exact sub_ins t p a i x kk hd.2.2.1 hp h.2.2
/-- What is moved, and moved back. -/
theorem move_back {f : F} {id p : Int} (hd : (ids f).Nodup) (hp : parF f id = some p) {to : Int} (a : Nat) (ht : to ∈ ids (del f id)) :
    sub (ins (del f id) to a (sub f id)) id = sub f id ∧ del (ins (del f id) to a (sub f id)) id = del f id ∧ ins (del (ins (del f id) to a (sub f id)) id) p (placeN (kidsF f p) id) (sub (ins (del f id) to a (sub f id)) id) = f := by
  have hm := (par_mem f id p hp).2
  obtain ⟨pre, x, m, k, post, A⟩ := at_of f 0 id hd hm
  have hno : id ∉ ids (del f id) := fun q => (del_iff hd A id hm).1 q (by rw [ids_sub_at A]; simp)
  have hnd := del_nodup id hd
  have hne : id ≠ to := fun q => hno (q ▸ ht)
  have e1 : sub (ins (del f id) to a (sub f id)) id = sub f id := by rw [A.tree]; exact sub_ins _ _ _ _ _ _ hnd ht hno
  have e2 : del (ins (del f id) to a (sub f id)) id = del f id := by rw [A.tree, del_ins _ _ _ _ _ _ _ hnd hno hne, ins_nil]
  refine ⟨e1, e2, ?_⟩
  rw [e1, e2]
  exact (ins_del f id p hd hp).2
end T
end Go.Proofs.YtidccohjehegjaaDoor
namespace Go.Proofs.YtidccohjehegjaaDoor
namespace T
open P
/-- A node: its id, its parent's, its item, its kids' ids. -/
structure Nd where
  id : Int
  par : Int
  x : Itm
  kids : List Int
/-- All nodes of a forest whose trees are kids of one. -/
def ents : F → Int → List Nd
  | none, _ => []
  | some ⟨i, x, k, s⟩, p => ⟨i, p, atL x 0, tops k⟩ :: (ents k i ++ ents s p)
theorem ents_ids : ∀ (f : F) (p : Int), (ents f p).map (·.id) = ids f
  | none, _ => by simp [ents, ids]
  | some ⟨i, x, k, s⟩, p => by simp [ents, ids, ents_ids k, ents_ids s]
theorem ents_app : ∀ (f g : F) (p : Int), ents (app f g) p = ents f p ++ ents g p
  | none, _, _ => by simp [ents, app]
  | some ⟨i, x, k, s⟩, g, p => by simp [ents, app, ents_app s g p]
theorem sub_one (f : F) (id : Int) (hd : (ids f).Nodup) (h : id ∈ ids f) : ∃ x k, sub f id = some ⟨id, x, k, none⟩ := by
  obtain ⟨pre, x, m, k, post, A⟩ := at_of f 0 id hd h
  exact ⟨x, k, A.tree⟩
theorem sub_s {i : Int} {x : Itm} {k s : F} {d : Int} (e : i ≠ d) (h : d ∉ ids k) : sub (some ⟨i, x, k, s⟩) d = sub s d := by rw [sub, if_neg e, sub_none k d h]
theorem sub_k {i : Int} {x : Itm} {k s : F} {d : Int} (e : i ≠ d) (hd : (ids k).Nodup) (h : d ∈ ids k) : sub (some ⟨i, x, k, s⟩) d = sub k d := by
  obtain ⟨y, kk, h1⟩ := sub_one k d hd h
  rw [sub, if_neg e, h1]
/-- One node turned. -/
def mapE (id : Int) (u : Nd → Nd) (l : List Nd) : List Nd := l.map fun e => if e.id = id then u e else e
theorem mapE_none {id : Int} {u : Nd → Nd} : ∀ {l : List Nd}, id ∉ l.map (·.id) → mapE id u l = l
  | [], _ => rfl
  | e :: l, h => by
    simp only [List.map_cons, List.mem_cons, not_or] at h
    unfold mapE
    rw [List.map_cons, if_neg (fun q => h.1 q.symm)]
    exact congrArg _ (mapE_none (l := l) h.2)
theorem mapE_app (id : Int) (u : Nd → Nd) (l m : List Nd) : mapE id u (l ++ m) = mapE id u l ++ mapE id u m := List.map_append
theorem mapE_ents {id : Int} {u : Nd → Nd} {f : F} {p : Int} (h : id ∉ ids f) : mapE id u (ents f p) = ents f p := mapE_none (by rw [ents_ids]; exact h)
theorem mapE_cons (id : Int) (u : Nd → Nd) (e : Nd) (l : List Nd) : mapE id u (e :: l) = (if e.id = id then u e else e) :: mapE id u l := List.map_cons
theorem nodup_parts {i : Int} {x : Itm} {k s : F} (h : (ids (some ⟨i, x, k, s⟩)).Nodup) : i ∉ ids k ∧ i ∉ ids s ∧ (ids k).Nodup ∧ (ids s).Nodup ∧ ∀ j, j ∈ ids k → j ∉ ids s := by
  simp only [ids, List.nodup_cons, List.mem_append, not_or] at h
  obtain ⟨⟨h1, h2⟩, h3⟩ := h
  rw [List.nodup_append] at h3
  exact ⟨h1, h2, h3.1, h3.2.1, fun j hj hs => h3.2.2 j hj j hs rfl⟩
theorem ents_upd : ∀ (f : F) (p id : Int) (h : Itm → Itm), (∀ y, atL (h y) 0 = h (atL y 0)) → (ids f).Nodup → ents (upd f id h) p = mapE id (fun e => { e with x := h e.x }) (ents f p)
  | none, _, _, _, _, _ => by simp [ents, upd, mapE]
  | some ⟨i, x, k, s⟩, p, id, h, hh, hd => by
    obtain ⟨d1, d2, d3, d4, d5⟩ := nodup_parts hd
    rw [upd]
    split
    · rename_i q
      subst q
      rw [ents, ents, mapE_cons, if_pos rfl, mapE_app, mapE_ents d1, mapE_ents d2, hh]
    · rename_i q
      rw [ents, ents, mapE_cons, if_neg q, mapE_app, ents_upd k i id h hh d3, ents_upd s p id h hh d4, (upd_ids k id h).2]
/-- Ids put in among others. -/
def insL (l : List Int) (a : Nat) (g : List Int) : List Int := l.take a ++ (g ++ l.drop a)
theorem tops_takeN : ∀ (f : F) (a : Nat), tops (takeN f a) = (tops f).take a
  | f, 0 => by cases f <;> simp [tops, takeN]
  | none, _ + 1 => by simp [tops, takeN]
  | some ⟨i, x, k, s⟩, a + 1 => by simp [tops, takeN, tops_takeN s a]
theorem tops_dropN : ∀ (f : F) (a : Nat), tops (dropN f a) = (tops f).drop a
  | f, 0 => by cases f <;> simp [tops, dropN]
  | none, _ + 1 => by simp [tops, dropN]
  | some ⟨i, x, k, s⟩, a + 1 => by simp [tops, dropN, tops_dropN s a]
theorem tops_insAt (f : F) (a : Nat) (g : F) : tops (insAt f a g) = insL (tops f) a (tops g) := by
  rw [ins_at, tops_app, tops_app, tops_takeN, tops_dropN]
  rfl
theorem ents_insAt (f : F) (a : Nat) (g : F) (p : Int) : (ents (insAt f a g) p).Perm (ents f p ++ ents g p) := by
  have e : ents f p = ents (takeN f a) p ++ ents (dropN f a) p := by rw [← ents_app, take_drop]
  rw [ins_at, ents_app, ents_app, e, List.append_assoc]
  exact List.perm_append_comm.append_left _
theorem tops_ins : ∀ (f : F) (p : Int) (a : Nat) (g : F), tops (ins f p a g) = tops f
  | none, _, _, _ => by simp [ins]
  | some ⟨i, x, k, s⟩, p, a, g => by
    rw [ins]
    split
    · simp [tops]
    · simp [tops, tops_ins s p a g]
theorem ents_ins : ∀ (f : F) (q p : Int) (a : Nat) (g : F), (ids f).Nodup → p ∈ ids f → (ents (ins f p a g) q).Perm (mapE p (fun e => { e with kids := insL e.kids a (tops g) }) (ents f q) ++ ents g p)
  | none, _, _, _, _, _, h => by simp [ids] at h
  | some ⟨i, x, k, s⟩, q, p, a, g, hd, h => by
    obtain ⟨d1, d2, d3, d4, d5⟩ := nodup_parts hd
    rw [ins]
    split
    · rename_i e
      subst e
      rw [ents, ents, mapE_cons, if_pos rfl, mapE_app, mapE_ents d1, mapE_ents d2, tops_insAt, List.cons_append]
      refine List.Perm.cons _ (((ents_insAt k a g i).append_right _).trans ?_)
      rw [List.append_assoc, List.append_assoc]
      exact List.perm_append_comm.append_left _
    · rename_i e
      simp only [ids, List.mem_cons, List.mem_append] at h
      rcases h with h | h | h
      · exact absurd h.symm e
      · have hs : p ∉ ids s := d5 p h
        rw [ins_none s p a g hs, ents, ents, mapE_cons, if_neg e, mapE_app, mapE_ents hs, tops_ins, List.cons_append]
        refine List.Perm.cons _ (((ents_ins k i p a g d3 h).append_right _).trans ?_)
        rw [List.append_assoc, List.append_assoc]
        exact List.perm_append_comm.append_left _
      · have hk : p ∉ ids k := fun z => d5 p z h
        rw [ins_none k p a g hk, ents, ents, mapE_cons, if_neg e, mapE_app, mapE_ents hk, List.cons_append]
        refine List.Perm.cons _ (((ents_ins s q p a g d4 h).append_left _).trans ?_)
        rw [List.append_assoc]
theorem tops_del : ∀ (f : F) (d : Int), (ids f).Nodup → tops (del f d) = (tops f).erase d
  | none, _, _ => by simp [del, tops]
  | some ⟨i, x, k, s⟩, d, hd => by
    obtain ⟨d1, d2, d3, d4, d5⟩ := nodup_parts hd
    rw [del]
    split
    · rename_i e
      subst e
      simp [tops]
    · rename_i e
      rw [tops, tops, tops_del s d d4, List.erase_cons_tail (by simpa using e)]
theorem ents_del_top : ∀ (f : F) (q d : Int), (ids f).Nodup → d ∈ tops f → (ents f q).Perm (ents (del f d) q ++ ents (sub f d) q)
  | none, _, _, _, h => by simp [tops] at h
  | some ⟨i, x, k, s⟩, q, d, hd, h => by
    obtain ⟨d1, d2, d3, d4, d5⟩ := nodup_parts hd
    by_cases e : i = d
    · subst e
      rw [del, if_pos rfl, sub, if_pos rfl, ents]
      simp only [ents, List.append_nil]
      exact (List.perm_append_comm (l₁ := _ :: ents k i) (l₂ := ents s q))
    · simp only [tops, List.mem_cons] at h
      rcases h with h | h
      · exact absurd h.symm e
      · have hs := tops_ids s d h
        have hk : d ∉ ids k := fun z => d5 d z hs
        rw [sub_s e hk, del, if_neg e, del_none k d hk, ents, ents, List.cons_append]
        refine List.Perm.cons _ (((ents_del_top s q d d4 h).append_left _).trans ?_)
        rw [List.append_assoc]
/-- A node taken out: its parent has it no more; it and what is in it are gone. -/
theorem ents_del : ∀ (f : F) (q d p : Int), (ids f).Nodup → parF f d = some p → (mapE p (fun e => { e with kids := e.kids.erase d }) (ents f q)).Perm (ents (del f d) q ++ ents (sub f d) p)
  | none, _, _, _, _, h => by simp [parF] at h
  | some ⟨i, x, k, s⟩, q, d, p, hd, h => by
    obtain ⟨d1, d2, d3, d4, d5⟩ := nodup_parts hd
    rw [parF] at h
    by_cases ht : d ∈ tops k
    · rw [if_pos ht, Option.some.injEq] at h
      subst h
      have hk := tops_ids k d ht
      have hs : d ∉ ids s := d5 d hk
      have e : i ≠ d := fun z => d1 (z ▸ hk)
      rw [sub_k e d3 hk, del, if_neg e, del_none s d hs, ents, ents, mapE_cons, if_pos rfl, mapE_app, mapE_ents d1, mapE_ents d2, tops_del k d d3, List.cons_append]
      refine List.Perm.cons _ (((ents_del_top k i d d3 ht).append_right _).trans ?_)
      rw [List.append_assoc, List.append_assoc]
      exact List.perm_append_comm.append_left _
    · rw [if_neg ht] at h
      cases hk : parF k d with
      | some p' =>
        rw [hk] at h
        simp only [Option.some.injEq] at h
        subst h
        have hm := par_mem k d p' hk
        have hs : p' ∉ ids s := d5 p' hm.1
        have hsd : d ∉ ids s := d5 d hm.2
        have e : i ≠ d := fun z => d1 (z ▸ hm.2)
        have e' : i ≠ p' := fun z => d1 (z ▸ hm.1)
        rw [sub_k e d3 hm.2, del, if_neg e, del_none s d hsd, ents, ents, mapE_cons, if_neg e', mapE_app, mapE_ents hs, tops_del k d d3, List.erase_of_not_mem ht, List.cons_append]
        refine List.Perm.cons _ (((ents_del k i d p' d3 hk).append_right _).trans ?_)
        rw [List.append_assoc, List.append_assoc]
        exact List.perm_append_comm.append_left _
      | none =>
        rw [hk] at h
        have hm := par_mem s d p h
        have hkp : p ∉ ids k := fun z => d5 p z hm.1
        have hkd : d ∉ ids k := fun z => d5 d z hm.2
        have e : i ≠ d := fun z => d2 (z ▸ hm.2)
        have e' : i ≠ p := fun z => d2 (z ▸ hm.1)
        rw [sub_s e hkd, del, if_neg e, del_none k d hkd, ents, ents, mapE_cons, if_neg e', mapE_app, mapE_ents hkp, List.cons_append]
        refine List.Perm.cons _ (((ents_del s q d p d4 h).append_left _).trans ?_)
        rw [List.append_assoc]
end T
end Go.Proofs.YtidccohjehegjaaDoor
namespace Go.Proofs.YtidccohjehegjaaDoor
namespace T
open P
/-- A node, the one that it is in, and so on. -/
def path : F → Int → List Int
  | none, _ => []
  | some ⟨i, _, k, s⟩, id => if i = id then [i] else if id ∈ ids k then path k id ++ [i] else path s id
theorem path_none : ∀ (f : F) (id : Int), id ∉ ids f → path f id = []
  | none, _, _ => by simp [path]
  | some ⟨i, x, k, s⟩, id, h => by
    simp only [ids, List.mem_cons, List.mem_append, not_or] at h
    rw [path, if_neg (fun q => h.1 q.symm), if_neg h.2.1]
    exact path_none s id h.2.2
theorem path_level : ∀ (f : F) (n id : Int), (ids f).Nodup → id ∈ ids f → levF f n id = some (n + ((path f id).length - 1)) ∧ 1 ≤ (path f id).length
  | none, _, _, _, h => by simp [ids] at h
  | some ⟨i, x, k, s⟩, n, id, hd, h => by
    obtain ⟨d1, d2, d3, d4, d5⟩ := nodup_parts hd
    rw [path, levF]
    by_cases e : i = id
    · rw [if_pos e, if_pos e]
      simp
    · rw [if_neg e, if_neg e]
      simp only [ids, List.mem_cons, List.mem_append] at h
      rcases h with h | h | h
      · exact absurd h.symm e
      · obtain ⟨h1, h2⟩ := path_level k (n + 1) id d3 h
        rw [if_pos h, h1]
        simp only [List.length_append, List.length_singleton, Option.some.injEq]
        omega
      · have hk : id ∉ ids k := fun z => d5 id z h
        rw [if_neg hk, lev_none k _ id hk]
        exact path_level s n id d4 h
/-- The way up goes by the parents. -/
theorem path_par : ∀ (f : F) (q : Int), (ids f).Nodup → ∀ e ∈ ents f q, (e.par = q ∧ e.id ∈ tops f ∧ path f e.id = [e.id]) ∨ (e.par ∈ ids f ∧ path f e.id = e.id :: path f e.par ∧ parF f e.id = some e.par)
  | none, _, _, _, h => by simp [ents] at h
  | some ⟨i, x, k, s⟩, q, hd, e, h => by
    obtain ⟨d1, d2, d3, d4, d5⟩ := nodup_parts hd
    rw [ents] at h
    simp only [List.mem_cons, List.mem_append] at h
    rcases h with h | h | h
    · subst h
      exact Or.inl ⟨rfl, by simp [tops], by simp [path]⟩
    · have hk : e.id ∈ ids k := by rw [← ents_ids k i]; exact List.mem_map_of_mem h
      have hi : i ≠ e.id := fun z => d1 (by rw [z]; exact hk)
      rcases path_par k i d3 e h with ⟨h1, h2, h3⟩ | ⟨h1, h2, h3⟩
      · refine Or.inr ⟨by rw [h1]; simp [ids], ?_, ?_⟩
        · rw [path, if_neg hi, if_pos hk, h3, h1, path, if_pos rfl]
          rfl
        · rw [parF, if_pos h2, h1]
      · have hp : i ≠ e.par := fun z => d1 (by rw [z]; exact h1)
        refine Or.inr ⟨by simp [ids, h1], ?_, ?_⟩
        · rw [path, if_neg hi, if_pos hk, h2, path, if_neg hp, if_pos h1]
          rfl
        · have ht : e.id ∉ tops k := fun z => by rw [par_top k e.id d3 z] at h3; cases h3
          rw [parF, if_neg ht, h3]
    · have hs : e.id ∈ ids s := by rw [← ents_ids s q]; exact List.mem_map_of_mem h
      have hk : e.id ∉ ids k := fun z => d5 _ z hs
      have hi : i ≠ e.id := fun z => d2 (by rw [z]; exact hs)
      rcases path_par s q d4 e h with ⟨h1, h2, h3⟩ | ⟨h1, h2, h3⟩
      · exact Or.inl ⟨h1, by simp [tops, h2], by rw [path, if_neg hi, if_neg hk, h3]⟩
      · have hp : i ≠ e.par := fun z => d2 (by rw [z]; exact h1)
        have hpk : e.par ∉ ids k := fun z => d5 _ z h1
        refine Or.inr ⟨by simp [ids, h1], ?_, ?_⟩
        · rw [path, if_neg hi, if_neg hk, h2, path, if_neg hp, if_neg hpk]
        · rw [parF, if_neg (fun z => hk (tops_ids k _ z)), par_none k _ hk, h3]
/-- Who is on the way up from a node is one in which it is. -/
theorem path_mem : ∀ (f : F) (x id : Int), (ids f).Nodup → (x ∈ path f id ↔ id ∈ ids (sub f x))
  | none, _, _, _ => by simp [path, sub, ids]
  | some ⟨i, y, k, s⟩, x, id, hd => by
    obtain ⟨d1, d2, d3, d4, d5⟩ := nodup_parts hd
    have sin : ∀ (f : F) (x id : Int), (ids f).Nodup → id ∈ ids (sub f x) → x ∈ ids f ∧ id ∈ ids f := fun f x id hd h => by
      by_cases hx : x ∈ ids f
      · obtain ⟨pre, y, m, kk, post, A⟩ := at_of f 0 x hd hx
        rw [ids_sub_at A] at h
        refine ⟨hx, ?_⟩
        rcases List.mem_cons.1 h with q | q
        · rw [q]; exact hx
        · rw [← rows_ids f 0, A.eq]
          simp only [List.map_append, List.map_cons, List.mem_append, List.mem_cons, rows_ids]
          exact Or.inr (Or.inr (Or.inl q))
      · rw [sub_none f x hx] at h; simp [ids] at h
    rw [path]
    by_cases e : i = id
    · subst e
      rw [if_pos rfl]
      constructor
      · intro h
        simp only [List.mem_singleton] at h
        subst h
        rw [sub, if_pos rfl]
        simp [ids]
      · intro h
        by_cases ex : i = x
        · simp [ex]
        · exfalso
          by_cases hx : x ∈ ids k
          · rw [sub_k ex d3 hx] at h
            exact d1 (sin k x i d3 h).2
          · rw [sub_s ex hx] at h
            exact d2 (sin s x i d4 h).2
    · rw [if_neg e]
      by_cases hk : id ∈ ids k
      · have hs : id ∉ ids s := d5 id hk
        rw [if_pos hk, List.mem_append, List.mem_singleton, path_mem k x id d3]
        by_cases ex : i = x
        · subst ex
          rw [sub, if_pos rfl]
          simp [ids, hk]
        · by_cases hx : x ∈ ids k
          · rw [sub_k ex d3 hx]
            exact ⟨fun h => h.elim (fun q => q) (fun q => absurd q.symm ex), Or.inl⟩
          · rw [sub_s ex hx, sub_none k x hx]
            constructor
            · rintro (h | h)
              · simp [ids] at h
              · exact absurd h.symm ex
            · intro h
              exact absurd (sin s x id d4 h).2 hs
      · rw [if_neg hk, path_mem s x id d4]
        by_cases ex : i = x
        · subst ex
          rw [sub, if_pos rfl, sub_none s i d2]
          simp only [ids, List.mem_cons, List.mem_append, List.not_mem_nil, or_false, hk, false_iff]
          exact fun q => e q.symm
        · by_cases hx : x ∈ ids k
          · rw [sub_k ex d3 hx, sub_none s x (d5 x hx)]
            constructor
            · intro h; simp [ids] at h
            · intro h; exact absurd (sin k x id d3 h).2 hk
          · rw [sub_s ex hx]
end T
end Go.Proofs.YtidccohjehegjaaDoor
namespace Go.Proofs.YtidccohjehegjaaDoor
namespace T
open P
/-- What is laid so far: the nodes, who is above at each level, those at level 0. -/
structure PS where
  l : List Nd
  ab : List Int
  top : List Int
def addK (i : List Int) (e : Nd) : Nd := { e with kids := e.kids ++ i }
def stepP (s : PS) (r : Row) : PS :=
  { l := (if r.2.level.toNat = 0 then s.l else mapE (s.ab.getD r.2.level.toNat 0) (addK [r.1]) s.l) ++ [⟨r.1, s.ab.getD r.2.level.toNat 0, atL r.2 0, []⟩],
    ab := s.ab.take (r.2.level.toNat + 1) ++ [r.1],
    top := if r.2.level.toNat = 0 then s.top ++ [r.1] else s.top }
theorem mapE_two (p : Int) (a b : List Int) (l : List Nd) : mapE p (addK b) (mapE p (addK a) l) = mapE p (addK (a ++ b)) l := by
  unfold mapE
  rw [List.map_map]
  refine List.map_congr_left fun e _ => ?_
  simp only [Function.comp_apply]
  by_cases h : e.id = p
  · rw [if_pos h, if_pos h, if_pos (show (addK a e).id = p from h)]
    simp [addK]
  · rw [if_neg h, if_neg h, if_neg h]
theorem mapE_ids {p : Int} {a : List Int} {l : List Nd} : (mapE p (addK a) l).map (·.id) = l.map (·.id) := by
  unfold mapE
  rw [List.map_map]
  refine List.map_congr_left fun e _ => ?_
  simp only [Function.comp_apply]
  split <;> rfl
theorem getD_take {l : List Int} {n m : Nat} (h : n < m) : (l.take m).getD n 0 = l.getD n 0 := by
  simp only [List.getD_eq_getElem?_getD, List.getElem?_take, if_pos h]
theorem take_getD {l m : List Int} {n : Nat} (h : l.take (n + 1) = m.take (n + 1)) : l.getD n 0 = m.getD n 0 := by
  rw [← getD_take (l := l) (Nat.lt_succ_self n), ← getD_take (l := m) (Nat.lt_succ_self n), h]
/-- A forest's rows, laid one after the other. -/
theorem plant_rows : ∀ (g : F) (n : Nat) (s : PS), n + 1 ≤ s.ab.length → (ids g).Nodup → (∀ i ∈ ids g, i ∉ s.l.map (·.id)) → s.ab.getD n 0 ∉ ids g →
    ((rows g (n : Int)).foldl stepP s).l = (if n = 0 then s.l else mapE (s.ab.getD n 0) (addK (tops g)) s.l) ++ ents g (s.ab.getD n 0) ∧ ((rows g (n : Int)).foldl stepP s).ab.take (n + 1) = s.ab.take (n + 1) ∧ n + 1 ≤ ((rows g (n : Int)).foldl stepP s).ab.length ∧ ((rows g (n : Int)).foldl stepP s).top = if n = 0 then s.top ++ tops g else s.top
  | none, n, s, hn, _, _, _ => by
    simp only [rows, List.foldl_nil, tops, ents, List.append_nil, ite_self]
    refine ⟨?_, trivial, hn, trivial⟩
    split
    · rfl
    · have : mapE (s.ab.getD n 0) (addK []) s.l = s.l := by
        unfold mapE
        refine (List.map_congr_left fun e _ => ?_).trans (List.map_id _)
        simp [addK]
      rw [this]
  | some ⟨i, x, k, t⟩, n, s, hn, hd, hf, hp => by
    obtain ⟨d1, d2, d3, d4, d5⟩ := nodup_parts hd
    simp only [ids, List.mem_cons, List.mem_append, not_or] at hf hp
    obtain ⟨p1, p2, p3⟩ := hp
    have hv : (atL x (n : Int)).level.toNat = n := by show ((n : Int)).toNat = n; omega
    obtain ⟨p, hP⟩ : ∃ p, s.ab.getD n 0 = p := ⟨_, rfl⟩
    rw [hP] at p1 p2 p3 ⊢
    obtain ⟨A, hA⟩ : ∃ A, (if n = 0 then s.l else mapE p (addK [i]) s.l) = A := ⟨_, rfl⟩
    have hAi : A.map (·.id) = s.l.map (·.id) := by
      rw [← hA]
      split
      · rfl
      · exact mapE_ids
    obtain ⟨s1, h1⟩ : ∃ s1, stepP s (i, atL x (n : Int)) = s1 := ⟨_, rfl⟩
    have e1 : s1.l = A ++ [⟨i, p, atL x 0, []⟩] := by rw [← h1, ← hA]; simp only [stepP, hv, hP]; rfl
    have e2 : s1.ab = s.ab.take (n + 1) ++ [i] := by rw [← h1]; simp only [stepP, hv]
    have e3 : s1.top = if n = 0 then s.top ++ [i] else s.top := by rw [← h1]; simp only [stepP, hv]
    have l1 : s1.ab.length = n + 2 := by rw [e2, List.length_append, List.length_take, Nat.min_eq_left hn]; rfl
    have g1 : s1.ab.getD (n + 1) 0 = i := by
      rw [e2, List.getD_eq_getElem?_getD, List.getElem?_append_right (by rw [List.length_take, Nat.min_eq_left hn]; exact Nat.le_refl _), List.length_take, Nat.min_eq_left hn]
      simp
    have ik := plant_rows k (n + 1) s1 (by omega) d3 (fun j hj => by
      rw [e1, List.map_append, hAi, List.mem_append]
      rintro (q | q)
      · exact hf j (Or.inr (Or.inl hj)) q
      · simp only [List.map_cons, List.map_nil, List.mem_singleton] at q
        exact d1 (q ▸ hj)) (by rw [g1]; exact d1)
    obtain ⟨s2, h2⟩ : ∃ s2, (rows k ((n + 1 : Nat) : Int)).foldl stepP s1 = s2 := ⟨_, rfl⟩
    rw [h2, g1] at ik
    obtain ⟨k1, k2, k3, k4⟩ := ik
    have hiA : i ∉ A.map (·.id) := by rw [hAi]; exact hf i (Or.inl rfl)
    rw [if_neg (Nat.succ_ne_zero n), e1, mapE_app, mapE_none hiA, mapE_cons, if_pos rfl] at k1
    rw [if_neg (Nat.succ_ne_zero n)] at k4
    have t2 : s2.ab.take (n + 1) = s.ab.take (n + 1) := by
      have := congrArg (List.take (n + 1)) k2
      rw [List.take_take, List.take_take, Nat.min_eq_left (by omega)] at this
      rw [this, e2, List.take_append_of_le_length (by rw [List.length_take, Nat.min_eq_left hn]; exact Nat.le_refl _), List.take_take, Nat.min_self]
    have g2 : s2.ab.getD n 0 = p := by rw [take_getD t2, hP]
    have l2 : s2.l = A ++ (⟨i, p, atL x 0, tops k⟩ :: ents k i) := by rw [k1]; simp [mapE, addK]
    have hl2 : s2.l.map (·.id) = s.l.map (·.id) ++ (i :: ids k) := by rw [l2, List.map_append, hAi, List.map_cons, ents_ids]
    have it := plant_rows t n s2 (by omega) d4 (fun j hj => by
      rw [hl2, List.mem_append, List.mem_cons]
      rintro (q | q | q)
      · exact hf j (Or.inr (Or.inr hj)) q
      · exact d2 (q ▸ hj)
      · exact d5 j q hj) (by rw [g2]; exact p3)
    rw [g2] at it
    obtain ⟨t3, t4, t5, t6⟩ := it
    have er : (rows (some ⟨i, x, k, t⟩) (n : Int)).foldl stepP s = (rows t (n : Int)).foldl stepP s2 := by
      rw [rows, List.foldl_cons, List.foldl_append, h1, show (n : Int) + 1 = ((n + 1 : Nat) : Int) by omega, h2]
    rw [er]
    refine ⟨?_, by rw [t4, t2], t5, ?_⟩
    · rw [t3, ents, tops]
      by_cases h0 : n = 0
      · rw [if_pos h0, if_pos h0, l2, ← hA, if_pos h0]
        simp
      · rw [if_neg h0, if_neg h0, l2, mapE_app, mapE_cons, if_neg (fun q => p1 q.symm), mapE_ents p2, ← hA, if_neg h0, mapE_two]
        simp
    · rw [t6, k4, e3, tops]
      by_cases h0 : n = 0
      · simp [h0]
      · simp [h0]
end T
end Go.Proofs.YtidccohjehegjaaDoor
namespace Go.Proofs.YtidccohjehegjaaDoor
namespace T
open P
def start (par : Int) : PS := ⟨[], [par], []⟩
/-- What is laid of the first rows. -/
def laidP (par : Int) (R : List Row) (k : Nat) : PS := (R.take k).foldl stepP (start par)
theorem laid_zero (par : Int) (R : List Row) : laidP par R 0 = start par := rfl
theorem laid_next {par : Int} {R : List Row} {k : Nat} (h : k < R.length) : laidP par R (k + 1) = stepP (laidP par R k) R[k] := by
  unfold laidP
  rw [List.take_succ_eq_append_getElem h, List.foldl_append]
  rfl
theorem laid_all (par : Int) (R : List Row) : laidP par R R.length = R.foldl stepP (start par) := by unfold laidP; rw [List.take_length]
/-- Who is above: of level 1 and on those that are laid. -/
structure AbOk (s : PS) (n : Int) : Prop where
  len : (s.ab.length : Int) = n + 1
  mem : ∀ j (h : j < s.ab.length), 1 ≤ j → s.ab[j] ∈ s.l.map (·.id)
theorem step_ids {s : PS} {r : Row} : (stepP s r).l.map (·.id) = s.l.map (·.id) ++ [r.1] := by
  unfold stepP
  simp only [List.map_append, List.map_cons, List.map_nil]
  split
  · rfl
  · rw [mapE_ids]
theorem ab_step {s : PS} {r : Row} {n : Int} (h : AbOk s n) (h0 : 0 ≤ r.2.level) (h1 : r.2.level ≤ n) : AbOk (stepP s r) (r.2.level + 1) := by
  have hl := h.len
  have e : (stepP s r).ab = s.ab.take (r.2.level.toNat + 1) ++ [r.1] := rfl
  have el : (stepP s r).ab.length = r.2.level.toNat + 2 := by rw [e, List.length_append, List.length_take, Nat.min_eq_left (by omega)]; rfl
  refine ⟨by rw [el]; omega, fun j hj h2 => ?_⟩
  rw [step_ids, List.mem_append]
  by_cases q : j < r.2.level.toNat + 1
  · left
    have := h.mem j (by omega) h2
    simp only [e]
    rw [List.getElem_append_left (by rw [List.length_take, Nat.min_eq_left (by omega)]; exact q), List.getElem_take]
    exact this
  · right
    simp only [e]
    rw [List.getElem_append_right (by rw [List.length_take, Nat.min_eq_left (by omega)]; omega)]
    simp
theorem laid_ok {par : Int} : ∀ (R : List Row) (s : PS) (n : Int), stairs 0 n R → AbOk s n → ∀ k (h : k < R.length), ∃ m, AbOk ((R.take k).foldl stepP s) m ∧ 0 ≤ R[k].2.level ∧ R[k].2.level ≤ m
  | r :: l, s, n, hs, ha, 0, _ => ⟨n, ha, hs.1, hs.2.1⟩
  | r :: l, s, n, hs, ha, k + 1, h => by
    have := laid_ok (par := par) l (stepP s r) (r.2.level + 1) hs.2.2 (ab_step ha hs.1 hs.2.1) k (by simpa using h)
    simpa using this
/-- The next row's level, and who is above it. -/
theorem laid_at {par : Int} {R : List Row} (hs : stairs 0 0 R) {k : Nat} (h : k < R.length) : 0 ≤ R[k].2.level ∧ R[k].2.level.toNat + 1 ≤ (laidP par R k).ab.length ∧ (R[k].2.level.toNat ≠ 0 → (laidP par R k).ab.getD R[k].2.level.toNat 0 ∈ (laidP par R k).l.map (·.id)) := by
  obtain ⟨m, h1, h2, h3⟩ := laid_ok (par := par) R (start par) 0 hs ⟨rfl, fun j hj h1 => by simp [start] at hj; omega⟩ k h
  have hl := h1.len
  unfold laidP
  refine ⟨h2, by omega, fun h4 => ?_⟩
  have h5 : R[k].2.level.toNat < ((R.take k).foldl stepP (start par)).ab.length := by omega
  rw [List.getD_eq_getElem?_getD, List.getElem?_eq_getElem h5]
  exact h1.mem _ h5 (by omega)
theorem laid_ids (par : Int) (R : List Row) : ∀ k, k ≤ R.length → (laidP par R k).l.map (·.id) = (R.take k).map (·.1)
  | 0, _ => rfl
  | k + 1, h => by
    rw [laid_next (by omega), step_ids, laid_ids par R k (by omega), List.take_succ_eq_append_getElem (by omega), List.map_append]
    rfl
theorem laid_len (par : Int) (R : List Row) (k : Nat) (h : k ≤ R.length) : (laidP par R k).l.length = k ∧ (laidP par R k).top.length ≤ k ∧ (laidP par R k).ab.length ≤ k + 1 := by
  refine ⟨?_, ?_, ?_⟩
  · have := congrArg List.length (laid_ids par R k h)
    simpa [Nat.min_eq_left h] using this
  · induction k with
    | zero => simp [laid_zero, start]
    | succ k ih =>
      have := ih (by omega)
      rw [laid_next (by omega)]
      unfold stepP
      simp only
      split
      · simp; omega
      · omega
  · induction k with
    | zero => simp [laid_zero, start]
    | succ k ih =>
      have := ih (by omega)
      rw [laid_next (by omega)]
      unfold stepP
      simp only [List.length_append, List.length_take, List.length_singleton]
      omega
/-- No node has more kids than have been laid. -/
theorem laid_kids (par : Int) (R : List Row) : ∀ k, k ≤ R.length → ∀ e ∈ (laidP par R k).l, e.kids.length ≤ k
  | 0, _, e, he => by simp [laid_zero, start] at he
  | k + 1, h, e, he => by
    rw [laid_next (by omega)] at he
    unfold stepP at he
    simp only [List.mem_append, List.mem_singleton] at he
    rcases he with he | he
    · split at he
      · have := laid_kids par R k (by omega) e he
        omega
      · unfold mapE at he
        obtain ⟨e0, h0, rfl⟩ := List.mem_map.1 he
        have := laid_kids par R k (by omega) e0 h0
        split
        · simp [addK]; omega
        · omega
    · rw [he]
      simp
/-- All rows of a forest, laid. -/
theorem laid_done {g : F} {par : Int} (hd : (ids g).Nodup) (hp : par ∉ ids g) : (laidP par (rows g 0) (rows g 0).length).l = ents g par ∧ (laidP par (rows g 0) (rows g 0).length).top = tops g := by
  rw [laid_all]
  have := plant_rows g 0 (start par) (by simp [start]) hd (by simp [start]) (by simpa [start] using hp)
  obtain ⟨h1, _, _, h4⟩ := this
  refine ⟨?_, ?_⟩
  · simpa [start] using h1
  · simpa [start] using h4
end T
end Go.Proofs.YtidccohjehegjaaDoor
