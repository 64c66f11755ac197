/- The walk of the document's own Normal. -/
import Derived.Test.YtmnegpdegfianaaDoorS4
import Derived.Test.YtmnegpdegfianaaDoorPCheck
namespace Go.Proofs.YtmnegpdegfianaaDoor
open Go.RowKit Go.Shelf
/-- What the document's Normal works with in its first loop. -/
def FullAt (l : List IV) (w : World) (i : Nat) (V3 : Value) (X : World) : Prop := X.ownsRow w.heap.size 32 5 V3 (keptI (l.take i)).length (encI (keptI (l.take i))) ∧ Below w.heap.size w X
theorem kept_len (l : List IV) (i : Nat) : (keptI (l.take i)).length ≤ i := by
  have h1 := List.length_filter_le (fun x : IV => !S.emptyT x.1) (l.take i)
  rw [List.length_take] at h1
  unfold keptI
  omega
/-- The cells of a row of its own. -/
theorem row_cells {base : Nat} {V : Value} {l : List IV} {w : World} (h : w.ownsRow base 32 5 V l.length (encI l)) (hne : l ≠ []) : ∃ g cap cur, V = .slice (some ⟨g, 0, none⟩) l.length cap ∧ base ≤ g ∧ w.heap[g]? = some (.cells cur 32 (0, 0)) ∧ l.length ≤ cap ∧ cap ≤ maxLen ∧ cur.size = cap * 5 ∧ cur.toList.take (l.length * 5) = encI l ∧ ∀ j (h : j < l.length), w.cell? ⟨g, j * 5, none⟩ = some (.int .i64 l[j].1.level) ∧ w.cell? ⟨g, j * 5 + 1, none⟩ = some (.int .i64 l[j].1.kind) ∧ w.cell? ⟨g, j * 5 + 2, none⟩ = some (.string l[j].1.name) ∧ w.cell? ⟨g, j * 5 + 3, none⟩ = some (.string l[j].1.text) ∧ w.cell? ⟨g, j * 5 + 4, none⟩ = some l[j].2 := by
  have hpos : 0 < l.length := List.length_pos_iff.2 hne
  rcases h.2 with ⟨_, hz⟩ | ⟨g, cap, cur, rfl, h1, h2, h3, h4, h5, h6⟩
  · omega
  · refine ⟨g, cap, cur, rfl, h1, h2, h3, h4, h5, h6, fun j hj => ?_⟩
    have at5 : ∀ s u, (encI l)[j * 5 + s]? = some u → w.cell? ⟨g, j * 5 + s, none⟩ = some u := fun s u hu => by
      rw [Lib.cell_of_heap h2]
      rw [← h6, List.getElem?_take] at hu
      split at hu
      · rw [← Array.getElem?_toList]; exact hu
      · cases hu
    obtain ⟨e0, e1, e2, e3, e4⟩ := encI_at l j hj
    exact ⟨at5 0 _ e0, at5 1 _ e1, at5 2 _ e2, at5 3 _ e3, at5 4 _ e4⟩
/-- Another text in the last item. -/
theorem row_text {base g cap : Nat} {cur : Array Value} {li : List IV} {c : IV} {w : World} {n : Nat} (t : ByteArray) (hn : n = (li ++ [c]).length) (hB : base ≤ g) (hg : w.heap[g]? = some (.cells cur 32 (0, 0))) (h3 : n ≤ cap) (h4 : cap ≤ maxLen) (h5 : cur.size = cap * 5) (h6 : cur.toList.take (n * 5) = encI (li ++ [c])) : (w.setCell ⟨g, li.length * 5 + 3, none⟩ (.string t)).ownsRow base 32 5 (.slice (some ⟨g, 0, none⟩) n cap) n (encI (li ++ [({ c.1 with text := t }, c.2)])) := by
  have hl : (encI (li ++ [({ c.1 with text := t }, c.2)])).length = n * 5 := by rw [encI_length, hn]; simp
  refine ⟨hl, Or.inr ⟨g, cap, _, rfl, hB, heap_setCell_same _ _ _ _ _ _ hg, h3, h4, by simp [h5], ?_⟩⟩
  rw [Array.toList_setIfInBounds, List.take_set, h6, encI_snoc, encI_snoc, List.set_append_right _ _ (by rw [encI_length]; omega), encI_length]
  congr 1
  rw [show li.length * 5 + 3 - li.length * 5 = 3 by omega]
  rfl
/-- The second loop: what is made so far. -/
structure OutAt (f : List IV) (w : World) (i : Nat) (lo : List IV) (V3 V5 : Value) (X : World) : Prop where
  made : lo.map (·.1) = ((f.map (·.1)).take i).foldl S.joinS []
  full : X.ownsRow w.heap.size 32 5 V3 f.length (encI f)
  out : X.ownsRow w.heap.size 32 5 V5 lo.length (encI lo)
  apart : V5.ownBlock = none ∨ V5.ownBlock ≠ V3.ownBlock
  below : Below w.heap.size w X
  len : lo.length ≤ i
  vals : ∀ x ∈ lo, ∃ y ∈ f, x.2 = y.2 ∧ x.1.attrs = y.1.attrs
  txt : (S.texts (lo.map (·.1))).length ≤ (S.texts ((f.map (·.1)).take i)).length
set_option maxHeartbeats 4000000 in
set_option maxRecDepth 100000 in
theorem rnormal_any (V : Value) (l : List IV) (w : World) (I : Hid (ItemsIn V l w)) (hn : l.length * 72 ≤ 140737488355328) (hlen : (S.texts (l.map (·.1))).length ≤ 140737488355328) :
    Calls Tryd.prog 14 #[V] w fun e w' => ∃ a n c, e = .returned (.slice a n c) ∧ ∃ l', l'.map (·.1) = S.normalP (l.map (·.1)) ∧ ItemsIn (.slice a n c) l' w' ∧ Below w.heap.size w w' := by
  obtain ⟨ao, cap, rfl, hl, hc⟩ := I.out.1
  have HC := hid hc
  have HAI : Hid (∀ x ∈ l, AttrsIn x.2 x.1.attrs w) := hid I.out.2
  have HLEN := hid hlen
  clear hc I hlen
  obtain ⟨i0, I0, I1, I2, I3⟩ := info_parts infoItm
  go_enter Tryd.func14, Tryd.ntmps14
  go_wp2
  go_loopw [3, 4] (fun v3 v4 X => ∃ i : Nat, v4 = .int .i64 (i : Int) ∧ i ≤ l.length ∧ Hid (FullAt l w i v3 X)) (fun _ v4 _ => l.length - (intOf v4).toNat)
  case atStart => exact ⟨0, rfl, by omega, hid ⟨⟨by simp [keptI, encI], Or.inl ⟨rfl, rfl⟩⟩, Below.refl _ _⟩⟩
  case round =>
    obtain ⟨i, rfl, hi, HF⟩ := hrel
    obtain ⟨fa, fn, fc, rfl⟩ : ∃ a n c, u3 = .slice a n c := by
      rcases HF.out.1.2 with ⟨rfl, _⟩ | ⟨g, cap, cur, rfl, _⟩
      · exact ⟨_, _, _, rfl⟩
      · exact ⟨_, _, _, rfl⟩
    by_cases h1 : i < l.length
    · have h1' : (i : Int) < (l.length : Int) := by omega
      obtain ⟨g, o, rfl, hg, hc⟩ := HC.out (by rintro rfl; simp at h1)
      obtain ⟨k0, k1, k2, k3, k4⟩ := hc i h1
      have c0 := (HF.out.2.cell (p := ⟨g, o + i * 5, none⟩) hg).trans k0
      have c1 := (HF.out.2.cell (p := ⟨g, o + i * 5 + 1, none⟩) hg).trans k1
      have c2 := (HF.out.2.cell (p := ⟨g, o + i * 5 + 2, none⟩) hg).trans k2
      have c3 := (HF.out.2.cell (p := ⟨g, o + i * 5 + 3, none⟩) hg).trans k3
      have c4 := (HF.out.2.cell (p := ⟨g, o + i * 5 + 4, none⟩) hg).trans k4
      obtain ⟨ax, nx, cx, ex⟩ : ∃ a n c, l[i].2 = .slice a n c := by
        obtain ⟨a, c, h, _⟩ := HAI.out _ (List.getElem_mem h1)
        exact ⟨_, _, _, h⟩
      have HKT := hid (kept_take h1)
      have HE : Hid (S.emptyT l[i].1 = (decide (l[i].1.kind = 2) && decide (l[i].1.text = L.noB))) := hid rfl
      have HX1 : Hid (encI1 l[i] = [.int .i64 l[i].1.level, .int .i64 l[i].1.kind, .string l[i].1.name, .string l[i].1.text, .slice ax nx cx]) := hid (by unfold encI1; rw [ex])
      rw [ex] at c4
      clear k0 k1 k2 k3 k4 hc ex
      have HM : Hid ((keptI (l.take i)).length + 1 ≤ maxLen ∧ ((keptI (l.take i)).length + 1) * 72 ≤ 140737488355328) := hid (by have := kept_len l i; unfold maxLen; omega)
      generalize l[i].1.level = lv at *
      generalize l[i].1.kind = kd at *
      generalize l[i].1.name = nm at *
      generalize l[i].1.text = tx at *
      by_cases he : kd = 2 ∧ tx = L.noB
      · obtain ⟨rfl, rfl⟩ := he
        have HK2 : Hid (keptI (l.take (i + 1)) = keptI (l.take i)) := hid (by rw [HKT.out, HE.out]; simp)
        have h2' : L.noB.toList.isEmpty = true := by rw [ByteArray.toList_eq]; rfl
        have h2n : L.noB.toList = [] := by rw [ByteArray.toList_eq]; rfl
        have HF2 : Hid (FullAt l w (i + 1) (.slice fa fn fc) wr) := hid (by unfold FullAt; rw [HK2.out]; exact HF.out)
        clear HKT HE
        go_wp2
        go_roundw
        case rel => exact ⟨i + 1, by go_num, by omega, HF2⟩
        case measure => (simp [intOf]; try omega)
      · have HK2 : Hid (keptI (l.take (i + 1)) = keptI (l.take i) ++ [l[i]]) := hid (by
          rw [HKT.out, if_neg]
          rw [HE.out]
          intro q
          simp only [Bool.and_eq_true, decide_eq_true_eq] at q
          exact he q)
        have HNA := hid (heap_alloc_new wr (.cells #[.int .i64 lv, .int .i64 kd, .string nm, .string tx, .slice ax nx cx] 32))
        have HA := hid (below_new wr (.cells #[.int .i64 lv, .int .i64 kd, .string nm, .string tx, .slice ax nx cx] 32))
        have done : ∀ g' cap' w5, w5.ownsRow w.heap.size 32 5 (.slice (some ⟨g', 0, none⟩) ((keptI (l.take i)).length + 1) cap') ((keptI (l.take i)).length + 1) (encI (keptI (l.take i)) ++ [.int .i64 lv, .int .i64 kd, .string nm, .string tx, .slice ax nx cx]) → World.grownBy (wr.alloc (.cells #[.int .i64 lv, .int .i64 kd, .string nm, .string tx, .slice ax nx cx] 32)) w5 (Value.slice fa fn fc).ownBlock → FullAt l w (i + 1) (.slice (some ⟨g', 0, none⟩) ((keptI (l.take i)).length + 1) cap') w5 := by
          intro g' cap' w5 hown hgrow
          refine ⟨by rw [HK2.out, encI_snoc, HX1.out, List.length_append]; exact hown, (HF.out.2.trans (HA.out.mono HF.out.2.size)).grown hgrow (Nat.le_trans HF.out.2.size HA.out.size) (fun k hk => ?_)⟩
          rcases HF.out.1.2 with ⟨h, _⟩ | ⟨q, _, _, h, hq, _⟩
          · rw [h] at hk; cases hk
          · rw [h] at hk
            simp only [Value.ownBlock, Option.some.injEq] at hk
            omega
        have HDN := hid done
        clear done HKT HE
        by_cases h3 : kd = 2
        · subst h3
          have h4 : tx ≠ L.noB := fun q => he ⟨rfl, q⟩
          have h2' : tx.toList.isEmpty = false := S.full_text h4
          have h2n : (tx.toList == []) = false := neq_empty tx h4
          clear he h4
          go_wp2_with (at_builtin; refine wpList_append_lies _ rfl (.tmp 28) (.tmp 33) 22 rfl w.heap.size 32 i0 (.agg #[.int .i64 0, .int .i64 0, .string ⟨#[]⟩, .string ⟨#[]⟩, .slice none 0 0]) 5 72 Tryd.underlying22 I0 I1 I2 I3 rfl (by decide) _ (keptI (l.take i)).length (encI (keptI (l.take i))) rfl (World.ownsRow.alloc HF.out.1 _) ⟨wr.heap.size, 0, none⟩ 1 1 [.int .i64 lv, .int .i64 2, .string nm, .string tx, .slice ax nx cx] rfl rfl (World.news_of_block HNA.out) ?k1 (by decide) HM.out.1 HM.out.2 ?k2 _ rfl ?_)
          case k1 =>
            intro u hu
            simp only [List.mem_cons, List.not_mem_nil, or_false] at hu
            rcases hu with rfl | rfl | rfl | rfl | rfl <;> rfl
          case k2 => exact Nat.le_trans HF.out.2.size HA.out.size
          intro g' cap' w5 hown hgrow _ _
          have HF2 := hid (HDN.out g' cap' w5 hown hgrow)
          clear hown hgrow HF HNA HA c0 c1 c2 c3 c4
          go_wp2
          go_roundw
          case rel => exact ⟨i + 1, by go_num, by omega, HF2⟩
          case measure => (simp [intOf]; try omega)
        · have h3' : (kd == 2) = false := beq_eq_false_iff_ne.2 h3
          have h3n : (kd != 2) = true := by simpa using h3
          clear he h3
          go_wp2_with (at_builtin; refine wpList_append_lies _ rfl (.tmp 28) (.tmp 33) 22 rfl w.heap.size 32 i0 (.agg #[.int .i64 0, .int .i64 0, .string ⟨#[]⟩, .string ⟨#[]⟩, .slice none 0 0]) 5 72 Tryd.underlying22 I0 I1 I2 I3 rfl (by decide) _ (keptI (l.take i)).length (encI (keptI (l.take i))) rfl (World.ownsRow.alloc HF.out.1 _) ⟨wr.heap.size, 0, none⟩ 1 1 [.int .i64 lv, .int .i64 kd, .string nm, .string tx, .slice ax nx cx] rfl rfl (World.news_of_block HNA.out) ?k1 (by decide) HM.out.1 HM.out.2 ?k2 _ rfl ?_)
          case k1 =>
            intro u hu
            simp only [List.mem_cons, List.not_mem_nil, or_false] at hu
            rcases hu with rfl | rfl | rfl | rfl | rfl <;> rfl
          case k2 => exact Nat.le_trans HF.out.2.size HA.out.size
          intro g' cap' w5 hown hgrow _ _
          have HF2 := hid (HDN.out g' cap' w5 hown hgrow)
          clear hown hgrow HF HNA HA c0 c1 c2 c3 c4
          go_wp2
          go_roundw
          case rel => exact ⟨i + 1, by go_num, by omega, HF2⟩
          case measure => (simp [intOf]; try omega)
    · have h1' : ¬ (i : Int) < (l.length : Int) := by omega
      obtain rfl : i = l.length := by omega
      have hF := HF.out
      unfold FullAt at hF
      rw [List.take_length] at hF
      obtain ⟨f, HFF⟩ : ∃ f, Hid (keptI l = f) := ⟨_, hid rfl⟩
      rw [HFF.out] at hF
      have HF2 := hid hF
      have hfl : f.length ≤ l.length := by rw [← HFF.out]; exact List.length_filter_le _ _
      have hfn : fn = f.length := by
        rcases hF.1.2 with ⟨h, h0⟩ | ⟨g, cap, cur, h, _⟩
        · simp only [Value.slice.injEq] at h; omega
        · simp only [Value.slice.injEq] at h; exact h.2.1
      subst hfn
      have hTF : (S.texts (f.map (·.1))).length ≤ (S.texts (l.map (·.1))).length := by rw [← HFF.out, kept_map]; exact S.texts_filter_le _ _
      have HTF := hid hTF
      have HFA : Hid (∀ y ∈ f, y ∈ l) := hid (fun y hy => by rw [← HFF.out] at hy; exact (List.mem_filter.1 hy).1)
      have HFM : Hid (S.normP (f.map (·.1)) = S.normalP (l.map (·.1))) := hid (by rw [← HFF.out, kept_map]; rfl)
      clear hF HF hTF
      go_wp2
      go_loopw [5, 6, 7] (fun v5 v6 _ X => ∃ (i : Nat) (lo : List IV), v6 = .int .i64 (i : Int) ∧ i ≤ f.length ∧ Hid (OutAt f w i lo (.slice fa f.length fc) v5 X)) (fun _ v6 _ _ => f.length - (intOf v6).toNat)
      case atStart => exact ⟨0, [], rfl, by omega, hid ⟨rfl, HF2.out.1, ⟨by simp [encI], Or.inl ⟨rfl, rfl⟩⟩, .inl rfl, HF2.out.2, by simp, by simp, by simp⟩⟩
      case round =>
        clear HF2
        obtain ⟨i, lo, rfl, hi, HO⟩ := hrel
        obtain ⟨oa, on, oc, rfl⟩ : ∃ a n c, u5 = .slice a n c := by
          rcases HO.out.out.2 with ⟨rfl, _⟩ | ⟨g, cap, cur, rfl, _⟩
          · exact ⟨_, _, _, rfl⟩
          · exact ⟨_, _, _, rfl⟩
        have hon : on = lo.length := by
          rcases HO.out.out.2 with ⟨h, h0⟩ | ⟨g, cap, cur, h, _⟩
          · simp only [Value.slice.injEq] at h; omega
          · simp only [Value.slice.injEq] at h; exact h.2.1
        subst hon
        by_cases h1 : i < f.length
        · have h1' : (i : Int) < (f.length : Int) := by omega
          have hfne : f ≠ [] := by rintro rfl; simp at h1
          obtain ⟨gf, cpf, curf, ef, hBf, hgf, _, _, _, _, hcf⟩ := row_cells HO.out.full hfne
          simp only [Value.slice.injEq] at ef
          obtain ⟨rfl, -, rfl⟩ := ef
          obtain ⟨k0, k1, k2, k3, k4⟩ := hcf i h1
          have HGF := hid hgf
          obtain ⟨ax, nx, cx, ex⟩ : ∃ a n c, f[i].2 = .slice a n c := by
            obtain ⟨a, c, h, _⟩ := HAI.out _ (HFA.out _ (List.getElem_mem h1))
            exact ⟨_, _, _, h⟩
          rw [ex] at k4
          have HFO : Hid (((f.map (·.1)).take (i + 1)).foldl S.joinS [] = S.joinS (lo.map (·.1)) f[i].1) := hid (by
            rw [List.take_succ_eq_append_getElem (by simpa using h1), List.foldl_append, ← HO.out.made]
            simp)
          have HTI : Hid ((S.texts ((f.map (·.1)).take (i + 1))).length = (S.texts ((f.map (·.1)).take i)).length + f[i].1.text.size) := hid (by
            rw [S.texts_take (by simpa using h1)]
            simp)
          have HTB : Hid ((S.texts ((f.map (·.1)).take (i + 1))).length ≤ (S.texts (l.map (·.1))).length) := hid (Nat.le_trans (S.texts_take_le _ _) HTF.out)
          have HX1 : Hid (encI1 f[i] = [.int .i64 f[i].1.level, .int .i64 f[i].1.kind, .string f[i].1.name, .string f[i].1.text, .slice ax nx cx]) := hid (by unfold encI1; rw [ex])
          have HM : Hid (lo.length + 1 ≤ maxLen ∧ (lo.length + 1) * 72 ≤ 140737488355328) := hid (by have := HO.out.len; unfold maxLen; omega)
          have HIN : Hid (f[i] ∈ f) := hid (List.getElem_mem h1)
          clear hcf hgf ex hfne
          -- one more item
          have push : ∀ (W : World), (∃ m, W = wr.drewN m) → S.joinS (lo.map (·.1)) f[i].1 = lo.map (·.1) ++ [f[i].1] → ∀ g' cap' w5, w5.ownsRow w.heap.size 32 5 (.slice (some ⟨g', 0, none⟩) (lo.length + 1) cap') (lo.length + 1) (encI lo ++ [.int .i64 f[i].1.level, .int .i64 f[i].1.kind, .string f[i].1.name, .string f[i].1.text, .slice ax nx cx]) → World.grownBy (W.alloc (.cells #[.int .i64 f[i].1.level, .int .i64 f[i].1.kind, .string f[i].1.name, .string f[i].1.text, .slice ax nx cx] 32)) w5 (Value.slice oa lo.length oc).ownBlock → ((Value.slice oa lo.length oc).ownBlock = some g' ∨ g' = W.heap.size + 1) → OutAt f w (i + 1) (lo ++ [f[i]]) (.slice (some ⟨gf, 0, none⟩) f.length fc) (.slice (some ⟨g', 0, none⟩) (lo.length + 1) cap') w5 := by
            rintro W ⟨m, rfl⟩ hj g' cap' w5 hown hgrow hgl
            have hb1 : Below w.heap.size w (wr.drewN m) := below_drewN HO.out.below m
            have hA := below_new (wr.drewN m) (.cells #[.int .i64 f[i].1.level, .int .i64 f[i].1.kind, .string f[i].1.name, .string f[i].1.text, .slice ax nx cx] 32)
            have hap : (Value.slice (some ⟨gf, 0, none⟩) f.length fc).ownBlock = none ∨ (Value.slice (some ⟨gf, 0, none⟩) f.length fc).ownBlock ≠ (Value.slice oa lo.length oc).ownBlock := by
              rcases HO.out.apart with h | h
              · right; rw [h]; simp [Value.ownBlock]
              · right; exact fun q => h q.symm
            refine ⟨?_, World.ownsRow.kept (World.ownsRow.alloc (w := wr.drewN m) HO.out.full _) hgrow hap, ?_, ?_, ?_, ?_, ?_, ?_⟩
            · rw [HFO.out, hj]; simp
            · rw [encI_snoc, HX1.out, List.length_append]; exact hown
            · right
              intro q
              simp only [Value.ownBlock, Option.some.injEq] at q
              subst q
              rcases hgl with h | h
              · rcases HO.out.apart with a | a
                · rw [a] at h; cases h
                · rw [h] at a; exact a rfl
              · have := lt_of_block HGF.out
                have e : (wr.drewN m).heap.size = wr.heap.size := rfl
                omega
            · refine (hb1.trans (hA.mono hb1.size)).grown hgrow (Nat.le_trans hb1.size hA.size) (fun k hk => ?_)
              rcases HO.out.out.2 with ⟨h, _⟩ | ⟨q, _, _, h, hq, _⟩
              · rw [h] at hk; cases hk
              · rw [h] at hk
                simp only [Value.ownBlock, Option.some.injEq] at hk
                omega
            · rw [List.length_append]; have := HO.out.len; simp; omega
            · intro x hx
              rcases List.mem_append.1 hx with hx | hx
              · exact HO.out.vals x hx
              · simp only [List.mem_singleton] at hx
                subst hx
                exact ⟨_, HIN.out, rfl, rfl⟩
            · rw [HTI.out, List.map_append, S.texts_app]
              have := HO.out.txt
              simp only [List.length_append, S.texts, List.map_cons, List.map_nil, List.flatMap_cons, List.flatMap_nil, List.append_nil, Array.length_toList, ByteArray.size_data] at *
              omega
          have HPU := hid push
          clear push
          obtain ⟨x, HX⟩ : ∃ x, Hid (f[i].1 = x) := ⟨_, hid rfl⟩
          rw [HX.out] at k0 k1 k2 k3 HFO HTI HX1 HPU
          obtain ⟨lv, kd, nm, tx, ats⟩ := x
          dsimp only at *
          by_cases h0 : lo = []
          · subst h0
            simp only [List.length_nil, List.map_nil] at *
            have HOO := hid HO.out.out
            go_wp2_with fail
            go_quiet (fail)
            go_wp2_with (at_builtin; refine wpList_append_lies _ rfl (.tmp 90) (.tmp 95) 22 rfl w.heap.size 32 i0 (.agg #[.int .i64 0, .int .i64 0, .string ⟨#[]⟩, .string ⟨#[]⟩, .slice none 0 0]) 5 72 Tryd.underlying22 I0 I1 I2 I3 rfl (by decide) _ 0 (encI []) rfl (World.ownsRow.alloc (w := wr.drewN _) HOO.out _) ⟨wr.heap.size, 0, none⟩ 1 1 [.int .i64 lv, .int .i64 kd, .string nm, .string tx, .slice ax nx cx] rfl rfl (World.news_of_block (heap_alloc_new (wr.drewN _) _)) ?k1 (by decide) HM.out.1 HM.out.2 ?k2 (wr.heap.size + 1) ?k3 ?_)
            case k1 =>
              intro u hu
              simp only [List.mem_cons, List.not_mem_nil, or_false] at hu
              rcases hu with rfl | rfl | rfl | rfl | rfl <;> rfl
            case k2 => exact Nat.le_trans (below_drewN HO.out.below _).size (below_new _ _).size
            case k3 => simp
            intro g' cap' w5 hown hgrow hgl _
            have HO2 := hid (HPU.out _ ⟨_, rfl⟩ rfl g' cap' w5 hown hgrow hgl)
            clear hown hgrow hgl HO HPU k0 k1 k2 k3 k4
            go_wp2
            go_roundw
            case rel => exact ⟨i + 1, _, by go_num, by omega, HO2⟩
            case measure => (simp [intOf]; try omega)
          · obtain ⟨li, c, rfl⟩ : ∃ li c, lo = li ++ [c] := ⟨lo.dropLast, lo.getLast h0, (List.dropLast_concat_getLast h0).symm⟩
            obtain ⟨go, cpo, curo, eo, hBo, hgo, o3, o4, o5, o6, hco⟩ := row_cells HO.out.out h0
            simp only [Value.slice.injEq] at eo
            obtain ⟨rfl, -, rfl⟩ := eo
            obtain ⟨d0, d1, d2, d3, d4⟩ := hco li.length (by simp)
            rw [List.getElem_concat_length rfl] at d0 d1 d2 d3 d4
            have HGO := hid hgo
            have HO6 := hid (And.intro hBo (And.intro o3 (And.intro o4 (And.intro o5 o6))))
            have HJS : Hid (S.joinS ((li ++ [c]).map (·.1)) ⟨lv, kd, nm, tx, ats⟩ = if kd = 2 ∧ c.1.kind = 2 ∧ c.1.level = lv then li.map (·.1) ++ [{ c.1 with text := c.1.text ++ tx }] else (li ++ [c]).map (·.1) ++ [⟨lv, kd, nm, tx, ats⟩]) := hid (by
              rw [List.map_append, List.map_cons, List.map_nil, S.join_snoc]
              unfold S.joinB
              simp)
            clear hco hgo hBo o3 o4 o5 o6 h0
            have hLL : (li ++ [c]).length = li.length + 1 := by simp
            have hlb : li.length ≤ 9223372036854775806 := by have := HO.out.len; omega
            have hsub : ((li.length + 1 : Nat) : Int) - 1 = (li.length : Int) := by omega
            have hge : (0 : Int) ≤ (li.length : Int) := by omega
            have hlt2 : (li.length : Int) < ((li.length + 1 : Nat) : Int) := by omega
            obtain ⟨p, HP⟩ : ∃ p, Hid (c.1 = p) := ⟨_, hid rfl⟩
            rw [HP.out] at d0 d1 d3 HJS
            obtain ⟨plv, pkd, pnm, ptx, pats⟩ := p
            dsimp only at *
            rw [hLL] at HM HPU
            have HLL := hid hLL
            have HOO : Hid (wr.ownsRow w.heap.size 32 5 (.slice (some ⟨go, 0, none⟩) (li.length + 1) oc) (li.length + 1) (encI (li ++ [c]))) := hid (by have := HO.out.out; rwa [hLL] at this)
            clear hLL
            rw [HLL.out]
            by_cases e1 : kd = 2
            · have e1' : (kd == 2) = true := beq_iff_eq.2 e1
              by_cases e2 : pkd = 2
              · have e2' : (pkd == 2) = true := beq_iff_eq.2 e2
                by_cases e3 : plv = lv
                · have e3' : (plv == lv) = true := beq_iff_eq.2 e3
                  have HJ2 : Hid (S.joinS ((li ++ [c]).map (·.1)) ⟨lv, kd, nm, tx, ats⟩ = li.map (·.1) ++ [⟨plv, pkd, pnm, ptx ++ tx, pats⟩]) := hid (by rw [HJS.out, if_pos ⟨e1, e2, e3⟩])
                  clear HJS e1 e2 e3
                  go_wp2_with fail
                  go_quiet (fail)
                  go_wp2_with fail
                  have q0 : ∀ n, (wr.drewN n).cell? ⟨go, li.length * 5 + 3, none⟩ = some (.string ptx) := fun n => d3
                  have q1 : ∀ n, (wr.drewN n).frozen? ⟨go, li.length * 5 + 3, none⟩ = false := fun n => Lib.frozen_of_heap (w := wr.drewN n) HGO.out _
                  have q2 : ∀ n, (wr.drewN n).cell? ⟨gf, i * 5 + 3, none⟩ = some (.string tx) := fun n => k3
                  have hsm : ptx.size + tx.size ≤ 9223372036854775807 := by
                    have a := HO.out.txt
                    have b := HTI.out
                    have c' := HTB.out
                    have d' := HLEN.out
                    have e' : ptx.size ≤ (S.texts ((li ++ [c]).map (·.1))).length := by
                      have := S.texts_mem (l := (li ++ [c]).map (·.1)) (x := c.1) (by simp)
                      rw [HP.out] at this
                      exact this
                    omega
                  have hsm2 : ptx.size + tx.size ≤ maxLen := by unfold maxLen; omega
                  have hlt3 : (li.length : Int) < (li.length : Int) + 1 := by omega
                  have fin : ∀ n, OutAt f w (i + 1) (li ++ [({ c.1 with text := ptx ++ tx }, c.2)]) (.slice (some ⟨gf, 0, none⟩) f.length fc) (.slice (some ⟨go, 0, none⟩) (li.length + 1) oc) ((wr.drewN n).setCell ⟨go, li.length * 5 + 3, none⟩ (.string (ptx ++ tx))) := by
                    intro n
                    obtain ⟨hBo, o3, o4, o5, o6⟩ := HO6.out
                    have hne : (Value.slice (some ⟨gf, 0, none⟩) f.length fc).ownBlock ≠ some go := by
                      rcases HO.out.apart with a | a
                      · simp [Value.ownBlock] at a
                      · intro q; exact a q.symm
                    refine ⟨?_, ownsRow_setCell_other (w := wr.drewN n) HO.out.full hne _, ?_, ?_, ?_, ?_, ?_, ?_⟩
                    · rw [HFO.out, HJ2.out, List.map_append, List.map_cons, List.map_nil, HP.out]
                    · have e : (li ++ [({ c.1 with text := ptx ++ tx }, c.2)]).length = li.length + 1 := by simp
                      rw [e]
                      exact row_text (w := wr.drewN n) (ptx ++ tx) (by rw [HLL.out]) hBo HGO.out (by rw [HLL.out] at o3; exact o3) o4 o5 (by rw [HLL.out] at o6; exact o6)
                    · right; exact fun q => hne q.symm
                    · exact (below_drewN HO.out.below n).setCell (p := ⟨go, li.length * 5 + 3, none⟩) hBo _
                    · have := HO.out.len
                      rw [HLL.out] at this
                      simp only [List.length_append, List.length_singleton]
                      omega
                    · intro x hx
                      rcases List.mem_append.1 hx with hx | hx
                      · exact HO.out.vals x (List.mem_append_left _ hx)
                      · simp only [List.mem_singleton] at hx
                        subst hx
                        exact HO.out.vals c (by simp)
                    · have a := HO.out.txt
                      have e1 : (S.texts ((li ++ [c]).map (·.1))).length = (S.texts (li.map (·.1))).length + ptx.size := by
                        rw [List.map_append, S.texts_app, List.length_append]
                        simp [S.texts, HP.out]
                      have e2 : (S.texts ((li ++ [({ c.1 with text := ptx ++ tx }, c.2)]).map (fun x : IV => x.1))).length = (S.texts (li.map (·.1))).length + (ptx.size + tx.size) := by
                        rw [List.map_append, S.texts_app, List.length_append]
                        simp [S.texts]
                      rw [HTI.out, e2]
                      rw [e1] at a
                      omega
                  have HFIN := hid fin
                  clear fin
                  go_region
                  all_goals
                    go_wp2
                    exact ⟨⟨i + 1, _, by go_num, by omega, hid (HFIN.out _)⟩, by simp [intOf]; omega⟩
                · have e3' : (plv == lv) = false := beq_eq_false_iff_ne.2 e3
                  have HJ2 := hid (HJS.out.trans (if_neg (fun q => e3 q.2.2)))
                  clear HJS e1 e2 e3
                  go_wp2_with fail
                  go_quiet (fail)
                  go_wp2_with (at_builtin; refine wpList_append_lies _ rfl (.tmp 90) (.tmp 95) 22 rfl w.heap.size 32 i0 (.agg #[.int .i64 0, .int .i64 0, .string ⟨#[]⟩, .string ⟨#[]⟩, .slice none 0 0]) 5 72 Tryd.underlying22 I0 I1 I2 I3 rfl (by decide) _ (li.length + 1) (encI (li ++ [c])) rfl (World.ownsRow.alloc (w := wr.drewN _) HOO.out _) ⟨wr.heap.size, 0, none⟩ 1 1 [.int .i64 lv, .int .i64 kd, .string nm, .string tx, .slice ax nx cx] rfl rfl (World.news_of_block (heap_alloc_new (wr.drewN _) _)) ?k1 (by decide) HM.out.1 HM.out.2 ?k2 (wr.heap.size + 1) ?k3 ?_)
                  case k1 =>
                    intro u hu
                    simp only [List.mem_cons, List.not_mem_nil, or_false] at hu
                    rcases hu with rfl | rfl | rfl | rfl | rfl <;> rfl
                  case k2 => exact Nat.le_trans (below_drewN HO.out.below _).size (below_new _ _).size
                  case k3 => simp
                  intro g' cap' w5 hown hgrow hgl _
                  have HO2 := hid (HPU.out _ ⟨_, rfl⟩ HJ2.out g' cap' w5 hown hgrow hgl)
                  clear hown hgrow hgl HO HPU k0 k1 k2 k3 k4
                  go_wp2
                  go_roundw
                  case rel => exact ⟨i + 1, _, by go_num, by omega, HO2⟩
                  case measure => (simp [intOf]; try omega)
              · have e2' : (pkd == 2) = false := beq_eq_false_iff_ne.2 e2
                have HJ2 := hid (HJS.out.trans (if_neg (fun q => e2 q.2.1)))
                clear HJS e1 e2
                go_wp2_with fail
                go_quiet (fail)
                go_wp2_with (at_builtin; refine wpList_append_lies _ rfl (.tmp 90) (.tmp 95) 22 rfl w.heap.size 32 i0 (.agg #[.int .i64 0, .int .i64 0, .string ⟨#[]⟩, .string ⟨#[]⟩, .slice none 0 0]) 5 72 Tryd.underlying22 I0 I1 I2 I3 rfl (by decide) _ (li.length + 1) (encI (li ++ [c])) rfl (World.ownsRow.alloc (w := wr.drewN _) HOO.out _) ⟨wr.heap.size, 0, none⟩ 1 1 [.int .i64 lv, .int .i64 kd, .string nm, .string tx, .slice ax nx cx] rfl rfl (World.news_of_block (heap_alloc_new (wr.drewN _) _)) ?k1 (by decide) HM.out.1 HM.out.2 ?k2 (wr.heap.size + 1) ?k3 ?_)
                case k1 =>
                  intro u hu
                  simp only [List.mem_cons, List.not_mem_nil, or_false] at hu
                  rcases hu with rfl | rfl | rfl | rfl | rfl <;> rfl
                case k2 => exact Nat.le_trans (below_drewN HO.out.below _).size (below_new _ _).size
                case k3 => simp
                intro g' cap' w5 hown hgrow hgl _
                have HO2 := hid (HPU.out _ ⟨_, rfl⟩ HJ2.out g' cap' w5 hown hgrow hgl)
                clear hown hgrow hgl HO HPU k0 k1 k2 k3 k4
                go_wp2
                go_roundw
                case rel => exact ⟨i + 1, _, by go_num, by omega, HO2⟩
                case measure => (simp [intOf]; try omega)
            · have e1' : (kd == 2) = false := beq_eq_false_iff_ne.2 e1
              have HJ2 := hid (HJS.out.trans (if_neg (fun q => e1 q.1)))
              clear HJS e1
              go_wp2_with fail
              go_quiet (fail)
              go_wp2_with (at_builtin; refine wpList_append_lies _ rfl (.tmp 90) (.tmp 95) 22 rfl w.heap.size 32 i0 (.agg #[.int .i64 0, .int .i64 0, .string ⟨#[]⟩, .string ⟨#[]⟩, .slice none 0 0]) 5 72 Tryd.underlying22 I0 I1 I2 I3 rfl (by decide) _ (li.length + 1) (encI (li ++ [c])) rfl (World.ownsRow.alloc (w := wr.drewN _) HOO.out _) ⟨wr.heap.size, 0, none⟩ 1 1 [.int .i64 lv, .int .i64 kd, .string nm, .string tx, .slice ax nx cx] rfl rfl (World.news_of_block (heap_alloc_new (wr.drewN _) _)) ?k1 (by decide) HM.out.1 HM.out.2 ?k2 (wr.heap.size + 1) ?k3 ?_)
              case k1 =>
                intro u hu
                simp only [List.mem_cons, List.not_mem_nil, or_false] at hu
                rcases hu with rfl | rfl | rfl | rfl | rfl <;> rfl
              case k2 => exact Nat.le_trans (below_drewN HO.out.below _).size (below_new _ _).size
              case k3 => simp
              intro g' cap' w5 hown hgrow hgl _
              have HO2 := hid (HPU.out _ ⟨_, rfl⟩ HJ2.out g' cap' w5 hown hgrow hgl)
              clear hown hgrow hgl HO HPU k0 k1 k2 k3 k4
              go_wp2
              go_roundw
              case rel => exact ⟨i + 1, _, by go_num, by omega, HO2⟩
              case measure => (simp [intOf]; try omega)
        · have h1' : ¬ (i : Int) < (f.length : Int) := by omega
          obtain rfl : i = f.length := by omega
          go_wp2
          go_ret
          refine ⟨_, _, _, rfl, lo, ?_, ?_, HO.out.below⟩
          · rw [HO.out.made, ← List.length_map (f := fun x : IV => x.1), List.take_length, S.fold_norm, HFM.out]
          · refine ⟨⟨_, _, rfl, by have := HO.out.len; omega, fun hne => ?_⟩, fun x hx => ?_⟩
            · obtain ⟨g, cap, cur, e, _, hg, _, _, _, _, hcl⟩ := row_cells HO.out.out hne
              simp only [Value.slice.injEq] at e
              refine ⟨g, 0, e.1, lt_of_block hg, fun q hq => ?_⟩
              have := hcl q hq
              simpa using this
            · obtain ⟨y, hy, e1, e2⟩ := HO.out.vals x hx
              rw [e1, e2]
              exact (HAI.out y (HFA.out y hy)).below HO.out.below
end Go.Proofs.YtmnegpdegfianaaDoor
