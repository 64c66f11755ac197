/- PROVED: of any two texts, PathqJoins returns true: two queries, one behind the other, are read as the steps of the first and the steps of the second; the texts read afterwards as they read before. Its conditions: the tables of glyph, pathq and strconv lie as the program's text lays them. -/
import Derived.Test.YtncgkglebpobpaaDoorQAlive
import Derived.Test.YtncgkglebpobpaaDoorQSame
import Derived.Test.YtncgkglebpobpaaDoorQJoin3
import Derived.Test.YtncgkglebpobpaaDoorQLaid
import Derived.ArgAppend
import Derived.Test.YtncgkglebpobpaaDoorTie
import Derived.Test.YtncgkglebpobpaaDoorCards
import Derived.SevenTiedAt
import Derived.Deep.DeepHandedRow
namespace Go.Proofs.YtncgkglebpobpaaDoor
open Go.ChangeShapes Go.WideShapes Go.ChangeAt Go.RowKit Go.Shelf
open Go.ChangeMaps (open_string shut_string)
namespace PathqJoins
theorem wpList_guard {P : Program} {ops : Array Oper} {Q : Exit → Act → World → Prop} {a : Act} {w : World} {rest : List Oper} {dst : Option Tmp} {op : Op} {ty : TypeId} {pos : String} {after : Array Edge} {g : Option (Nat × Bool)}
    (hw : Region.wanted (Oper.mk dst op ty pos after g) (yielded ops a.tmps) = true) (h : wpList P ops Q (Oper.mk dst op ty pos after none :: rest) a w) : wpList P ops Q (Oper.mk dst op ty pos after g :: rest) a w := by
  unfold wpList at h ⊢
  rw [if_pos hw]
  rw [if_pos (by simp [Region.wanted])] at h
  exact h
theorem steps_cells {base : Nat} {V : Value} {l : List SV} {w : World} (h : StepRow base V l w) (hl : l ≠ []) :
    ∃ g cap, V = .slice (some ⟨g, 0, none⟩) l.length cap ∧ ∀ W', Below w.heap.size w W' → ∀ j u, (encS l)[j]? = some u → W'.cell? ((⟨g, 0, none⟩ : Addr).add j) = some u := by
  have h0 := h.1
  have hlen := h0.1
  rcases h.1.2 with ⟨rfl, h1⟩ | ⟨g, cap, cur, rfl, hb, hg, h2, h3, _⟩
  · exact absurd (List.length_eq_zero_iff.1 h1) hl
  · refine ⟨g, cap, rfl, fun W' hb j u hj => ?_⟩
    have hj2 : j < (encS l).length := by
      rcases Nat.lt_or_ge j (encS l).length with h | h
      · exact h
      · rw [List.getElem?_eq_none h] at hj; cases hj
    rw [Addr.add_lit, Nat.zero_add, hb.cell (p := ⟨g, j, none⟩) (lt_of_block hg), World.ownsRow.cellAt h0 j (by omega), hj]
theorem encS_app (l m : List SV) : encS (l ++ m) = encS l ++ encS m := by simp [encS]
theorem encS_length (l : List SV) : (encS l).length = l.length * 4 := by
  induction l with
  | nil => rfl
  | cons a l ih => simp only [encS, List.flatMap_cons, List.length_append, List.length_cons] at ih ⊢; rw [ih]; simp only [encS1, List.length_cons, List.length_nil]; omega
theorem encS_one (l : List SV) {w : World} (h : ∀ x ∈ l, PredsIn x.2 x.1.preds w) : ∀ u ∈ encS l, u.oneCell' = true := by
  intro u hu
  obtain ⟨x, hx, hu⟩ := List.mem_flatMap.1 hu
  obtain ⟨ao, cap, hv, _⟩ := h x hx
  simp only [encS1, hv, List.mem_cons, List.not_mem_nil, or_false] at hu
  rcases hu with rfl | rfl | rfl | rfl <;> rfl
theorem steps_of {base : Nat} {V : Value} {l : List SV} {w : World} (h0 : w.ownsRow base 42 4 V l.length (encS l)) (hp : ∀ x ∈ l, PredsIn x.2 x.1.preds w) : StepsIn V l w := by
  refine ⟨?_, hp⟩
  rcases h0.2 with ⟨rfl, h1⟩ | ⟨g, cap, cur, rfl, hb, hg, h2, h3, _⟩
  · exact ⟨none, 0, by rw [h1], by omega, fun hl => absurd (List.length_eq_zero_iff.1 h1) hl⟩
  · refine ⟨_, _, rfl, by unfold maxLen at h3; omega, fun _ => ⟨g, 0, rfl, lt_of_block hg, fun j hj => ?_⟩⟩
    obtain ⟨e0, e1, e2, e3⟩ := encS_at l j hj
    have c := fun q hq => World.ownsRow.cellAt h0 q hq
    simp only [Nat.zero_add]
    exact ⟨by rw [c _ (by omega)]; exact e0, by rw [c _ (by omega)]; exact e1, by rw [c _ (by omega)]; exact e2, by rw [c _ (by omega)]; exact e3⟩
theorem ok_size {q : ByteArray} {l : List Q.Step} (h : Q.parseP q = .ok l) : q.size ≤ 200 := by
  unfold Q.parseP at h
  split at h
  · cases h
  · omega
set_option maxRecDepth 100000 in
set_option maxHeartbeats 8000000 in
theorem walk (a b : ByteArray) (_ : a.size ≤ 140737488351232) (hzb : b.size ≤ 140737488351232) (w : World) (ht : TabQ w) :
    Calls Tryd.prog 7 #[.string a, .string b] w fun e w' => e = .returned (.bool true) ∧ Below w.heap.size w w' := by
  have HT := hid ht
  clear ht
  obtain ⟨i0, hi0, hz0, hz1, hz2⟩ := info_parts infoS
  have I0 := hid hi0
  have I1 := hid hz0
  have I2 := hid hz1
  have I3 := hid hz2
  clear hi0 hz0 hz1 hz2
  obtain ⟨r1, HR1⟩ : ∃ r, Hid (Q.parseP a = r) := ⟨_, hid rfl⟩
  obtain ⟨r2, HR2⟩ : ∃ r, Hid (Q.parseP b = r) := ⟨_, hid rfl⟩
  obtain ⟨r3, HR3⟩ : ∃ r, Hid (Q.parseP (a ++ b) = r) := ⟨_, hid rfl⟩
  have DONE : Hid (∀ W, Below w.heap.size w W → Calls Tryd.prog 12 #[] W fun e w' => e = .returned (.bool true) ∧ Below w.heap.size w w') := hid (fun W h => (aliveQ_any W (HT.out.below h)).mono fun e w' ⟨x, y⟩ => ⟨x, h.trans (y.mono h.size)⟩)
  go_enter Tryd.func7, Tryd.ntmps7
  go_wp2_with fail
  refine Calls.mono (qparse_any a w HT.out r1 HR1) ?_
  rintro e w1 ⟨hb1, h1⟩
  have B1 := hid hb1
  obtain ⟨V, z1, e1, rfl, G1⟩ : ∃ V z1 e1, e = .returned (.tuple #[V, .int .i64 z1, .int .i64 e1]) ∧ Hid (e1 ≠ 0 ∨ (e1 = 0 ∧ ∃ l : List SV, r1 = .ok (l.map (·.1)) ∧ StepRow w.heap.size V l w1)) := by
    rcases h1 with ⟨z, e0, h1, h2, rfl⟩ | ⟨l, V, h1, rfl, h3⟩
    · exact ⟨_, _, _, rfl, hid (Or.inl h2)⟩
    · exact ⟨_, _, _, rfl, hid (Or.inr ⟨rfl, l, h1, h3⟩)⟩
  clear hb1 h1
  go_wp2_with fail
  refine Calls.mono (qparse_any b w1 (HT.out.below B1.out) r2 HR2) ?_
  rintro e w2 ⟨hb2, h2⟩
  have B2 := hid (B1.out.trans (hb2.mono B1.out.size))
  have B12 := hid hb2
  obtain ⟨V2, z2, e2, rfl, G2⟩ : ∃ V z1 e1, e = .returned (.tuple #[V, .int .i64 z1, .int .i64 e1]) ∧ Hid (e1 ≠ 0 ∨ (e1 = 0 ∧ ∃ l : List SV, r2 = .ok (l.map (·.1)) ∧ StepRow w1.heap.size V l w2)) := by
    rcases h2 with ⟨z, e0, h1, h2, rfl⟩ | ⟨l, V, h1, rfl, h3⟩
    · exact ⟨_, _, _, rfl, hid (Or.inl h2)⟩
    · exact ⟨_, _, _, rfl, hid (Or.inr ⟨rfl, l, h1, h3⟩)⟩
  clear hb2 h2
  by_cases n1 : e1 = 0
  case neg =>
    have b1 : (e1 != 0) = true := bne_iff_ne.2 n1
    clear n1 G1 G2
    go_wp2_with fail
    refine (DONE.out w2 B2.out).mono ?_
    rintro e w3 ⟨rfl, hb3⟩
    have B3 := hid hb3
    clear hb3
    go_wp2
    go_ret
    exact ⟨rfl, B3.out⟩
  case pos =>
    subst n1
    by_cases n2 : e2 = 0
    case neg =>
      have b2 : (e2 != 0) = true := bne_iff_ne.2 n2
      clear n2 G1 G2
      go_wp2_with fail
      refine (DONE.out w2 B2.out).mono ?_
      rintro e w3 ⟨rfl, hb3⟩
      have B3 := hid hb3
      clear hb3
      go_wp2
      go_ret
      exact ⟨rfl, B3.out⟩
    case pos =>
      subst n2
      obtain ⟨l, hl1, hl2⟩ : ∃ l : List SV, r1 = .ok (l.map (·.1)) ∧ StepRow w.heap.size V l w1 := by
        rcases G1.out with h | ⟨_, h⟩
        · exact absurd rfl h
        · exact h
      obtain ⟨m, hm1, hm2⟩ : ∃ l : List SV, r2 = .ok (l.map (·.1)) ∧ StepRow w1.heap.size V2 l w2 := by
        rcases G2.out with h | ⟨_, h⟩
        · exact absurd rfl h
        · exact h
      have p1 := HR1.out.trans hl1
      have p2 := HR2.out.trans hm1
      have s1 := ok_size p1
      have s2 := ok_size p2
      obtain ⟨-, t1, t2⟩ := Q.parse_right p1
      obtain ⟨-, t3, t4⟩ := Q.parse_right p2
      by_cases hsz : a.size + b.size ≤ 200
      case neg =>
        have hsz' : (200 : Int) - (b.size : Int) < (a.size : Int) := by omega
        clear G1 G2 hl1 hl2 hm1 hm2 p1 p2 t1 t2 t3 t4
        go_wp2_with fail
        refine (DONE.out w2 B2.out).mono ?_
        rintro e w3 ⟨rfl, hb3⟩
        have B3 := hid hb3
        clear hb3
        go_wp2
        go_ret
        exact ⟨rfl, B3.out⟩
      case pos =>
        have hsz' : ¬ (200 : Int) - (b.size : Int) < (a.size : Int) := by omega
        have hs0 : (a.size : Int) + (b.size : Int) ≤ 9223372036854775807 := by omega
        have hj := Q.parse_join p1 p2 hsz
        have hn1 : l ≠ [] := fun e => t2 (by rw [e]; rfl)
        have hn2 : m ≠ [] := fun e => t4 (by rw [e]; rfl)
        have t1' : l.length ≤ 20 := by simpa using t1
        have t3' : m.length ≤ 20 := by simpa using t3
        obtain ⟨g1, cap1, rfl, c1⟩ := steps_cells hl2 hn1
        obtain ⟨g2, cap2, rfl, c2⟩ := steps_cells hm2 hn2
        have C1 := hid c1
        have C2 := hid c2
        have HS1 : Hid (∀ x ∈ l, PredsIn x.2 x.1.preds w2) := hid (((steps_in hl2).below B12.out).2)
        have HS2 : Hid (∀ x ∈ m, PredsIn x.2 x.1.preds w2) := hid ((steps_in hm2).2)
        simp only [List.length_map] at hj
        have HJ : Hid ((l.length + m.length ≤ 20 → r3 = .ok ((l ++ m).map (·.1))) ∧ (20 < l.length + m.length → ∃ z, r3 = .error (z, 70))) := hid (by rw [← HR3.out, List.map_append]; exact hj)
        have HN := hid hn1
        have HN2 := hid hn2
        clear G1 G2 hl1 hl2 hm1 hm2 p1 p2 t1 t2 t3 t4 hj hn1 hn2 c1 c2
        go_wp2_with fail
        refine Calls.mono (qparse_any (a ++ b) w2 (HT.out.below B2.out) r3 HR3) ?_
        rintro e w3 ⟨hb3, h3⟩
        have B3 := hid (B2.out.trans (hb3.mono B2.out.size))
        have B23 := hid hb3
        clear hb3
        by_cases h20 : l.length + m.length ≤ 20
        case neg =>
          obtain ⟨z, hz⟩ := HJ.out.2 (by omega)
          obtain ⟨z, rfl⟩ : ∃ z, e = .returned (.tuple #[.slice none 0 0, .int .i64 z, .int .i64 70]) := by
            rcases h3 with ⟨z', e0, h1, h2, rfl⟩ | ⟨_, _, h1, _⟩
            · rw [hz] at h1
              simp only [Except.error.injEq, Prod.mk.injEq] at h1
              obtain ⟨_, rfl⟩ := h1
              exact ⟨_, rfl⟩
            · rw [hz] at h1; cases h1
          have h20' : (20 : Int) < (l.length : Int) + (m.length : Int) := by omega
          have h63 : (l.length : Int) + (m.length : Int) ≤ 9223372036854775807 := by omega
          clear h3 hz
          go_wp2_with fail
          refine (DONE.out w3 B3.out).mono ?_
          rintro e w4 ⟨rfl, hb4⟩
          have B4 := hid hb4
          clear hb4
          go_wp2
          go_ret
          exact ⟨rfl, B4.out⟩
        case pos =>
          have hz := HJ.out.1 h20
          obtain ⟨n, V3, hn, rfl, h4⟩ : ∃ (n : List SV) (V3 : Value), n.map (·.1) = (l ++ m).map (·.1) ∧ e = .returned (.tuple #[V3, .int .i64 0, .int .i64 0]) ∧ StepRow w2.heap.size V3 n w3 := by
            rcases h3 with ⟨z', e0, h1, h2, rfl⟩ | ⟨n, V3, h1, h2, h4⟩
            · rw [hz] at h1; cases h1
            · rw [hz] at h1
              exact ⟨n, V3, (Except.ok.inj h1).symm, h2, h4⟩
          have h20' : ¬ (20 : Int) < (l.length : Int) + (m.length : Int) := by omega
          have h63 : (l.length : Int) + (m.length : Int) ≤ 9223372036854775807 := by omega
          have HE := hid hn
          have HS3 := hid (steps_in h4)
          clear h3 hz hn h4
          go_wp2_with fail
          refine (aliveQ_any w3 (HT.out.below B3.out)).mono ?_
          rintro e w4 ⟨rfl, hb4⟩
          have B4 := hid (B3.out.trans (hb4.mono B3.out.size))
          have B24 := hid (B23.out.trans (hb4.mono B23.out.size))
          have HS4 := hid (HS3.out.below hb4)
          clear hb4 HS3
          have BW : Hid (Below w4.heap.size w4 (w4.alloc (Obj.cells #[] 42))) := hid ((Below.refl _ _).alloc (Nat.le_refl _) _)
          have B14 : Hid (Below w1.heap.size w1 w4) := hid (B12.out.trans (B24.out.mono B12.out.size))
          have HC1 : Hid (∀ j u, (encS l)[j]? = some u → (w4.alloc (Obj.cells #[] 42)).cell? ((⟨g1, 0, none⟩ : Addr).add j) = some u) := hid (C1.out _ (B14.out.trans (BW.out.mono B14.out.size)))
          have l1 := hid (encS_length l)
          have l2 := hid (encS_length m)
          have o1 := hid (encS_one l HS1.out)
          have o2 := hid (encS_one m HS2.out)
          have ps1 : Hid (0 < l.length) := hid (List.length_pos_iff.2 HN.out)
          have ps2 : Hid (0 < m.length) := hid (List.length_pos_iff.2 HN2.out)
          have HNUM : Hid ((0 < 0 + l.length ∧ 0 + l.length ≤ maxLen ∧ (0 + l.length) * 56 ≤ 140737488355328) ∧ l.length + m.length ≤ maxLen ∧ (l.length + m.length) * 56 ≤ 140737488355328) := hid (by have := ps1.out; unfold maxLen; omega)
          clear HJ HN HN2 C1
          go_wp2_with (first
            | (at_builtin
               refine wpList_guard (by rfl) ?_
               refine wpList_append_grows _ rfl (.tmp 67) (.tmp 68) 22 rfl 42 i0 (.agg #[.int .i64 0, .int .i64 0, .string ⟨#[]⟩, .slice none 0 0]) 4 56 Tryd.underlying22 I0.out I1.out I2.out I3.out rfl (by decide) (some ⟨w4.heap.size, 0, none⟩) 0 0 [] rfl (by simp) rfl (by simp) ⟨g1, 0, none⟩ l.length cap1 (encS l) rfl l1.out HC1.out o1.out HNUM.out.1.1 HNUM.out.1.2.1 HNUM.out.1.2.2 ?_
               intro v5 w5 hown1 hgrow1
               have B5 := hid (BW.out.grown hgrow1 (by simp) (by simp) : Below w4.heap.size w4 w5)
               obtain ⟨g5, cap5, e5⟩ : ∃ g cap, v5 = .slice (some ⟨g, 0, none⟩) l.length cap := by
                 rcases hown1.2 with ⟨_, h⟩ | ⟨g, cap, _, h, _⟩
                 · have := ps1.out; omega
                 · exact ⟨g, cap, by rw [h]; simp⟩
               subst e5
               have HO5 : Hid (w5.ownsRow w4.heap.size 42 4 (.slice (some ⟨g5, 0, none⟩) l.length cap5) l.length (encS l)) := hid (own_mono (by simpa using hown1) (by simp))
               have B25 := hid (B24.out.trans (B5.out.mono B24.out.size))
               have HC5 := hid (C2.out _ B25.out)
               have hq5 : Hid (∀ q, (Value.slice (some ⟨g5, 0, none⟩) l.length cap5).ownBlock = some q → w4.heap.size ≤ q) := hid (fun q hq => (World.ownsRow.lt HO5.out q hq).1)
               have z5 := hid B5.out.size
               clear hown1 hgrow1)
            | (at_builtin
               refine wpList_guard (by rfl) ?_
               refine wpList_append_lies _ rfl (.tmp 69) (.tmp 70) 22 rfl w4.heap.size 42 i0 (.agg #[.int .i64 0, .int .i64 0, .string ⟨#[]⟩, .slice none 0 0]) 4 56 Tryd.underlying22 I0.out I1.out I2.out I3.out rfl (by decide) _ l.length (encS l) rfl HO5.out ⟨g2, 0, none⟩ m.length cap2 (encS m) rfl l2.out HC5.out o2.out ps2.out HNUM.out.2.1 HNUM.out.2.2 z5.out w5.heap.size rfl ?_
               intro g6 cap6 w6 hown2 hgrow2 _ _
               have B6 := hid (B5.out.grown hgrow2 z5.out (fun q hq => hq5.out q hq))
               have HS6 : Hid (StepsIn (.slice (some ⟨g6, 0, none⟩) (l.length + m.length) cap6) (l ++ m) w6) := hid (by
                 have B46 := B24.out.trans (B6.out.mono B24.out.size)
                 refine steps_of (base := w4.heap.size) (by rw [encS_app, List.length_append]; exact hown2) (fun x hx => ?_)
                 rcases List.mem_append.1 hx with h | h
                 · exact (HS1.out x h).below B46
                 · exact (HS2.out x h).below B46)
               clear hown2 hgrow2))
          refine Calls.mono (sameQ_any _ _ n (l ++ m) w6 (hid (HS4.out.below B6.out)) HS6 HE.out) ?_
          rintro e w7 ⟨rfl, hb7⟩
          have B7 := hid (B4.out.trans ((B6.out.mono B4.out.size).trans (hb7.mono (Nat.le_trans B4.out.size B6.out.size))))
          clear hb7
          go_wp2
          go_ret
          exact ⟨rfl, B7.out⟩


set_option maxRecDepth 100000 in
theorem contract (H : Type) (enc : TypeId × Value → H) (W : World) (base : Nat) (args : Array Value) (ds gs : List (DataW H)) (before : List MemPlace)
    (hval : ∀ (j : Nat) t v, Tryd.f7.params[j]? = some t → args[j]? = some v → Value.okWide Tryd.prog W .any base t v)
    (hW : DataW.Whole enc Tryd.prog Tryd.f7.params.toList Rows.pathqJoinsSpec.vars false W args.toList ds gs before) (hL : laidMetH Tryd.prog laidT W)
    (hsz : (DataW.weightsEach Tryd.prog (Tryd.f7.params.toList ++ (OpenSpec.ofChange Rows.pathqJoinsSpec).bare.plain.varTypes Tryd.prog) (ds ++ gs)).all (· ≤ reachBytes) = true) :
    Calls Tryd.prog 7 args W fun e W' => ∃ v, e = .returned v ∧ Rows.pathqJoinsSpec.post enc Tryd.prog Tryd.f7 false true false false W args v W' := by
  have hW' := hW
  obtain ⟨p, q, hA0, hV, rfl, hfz, hnd⟩ := hW
  have hA : DataW.TrodAll enc Tryd.prog W 0 (fun _ => true) true Tryd.f7.params.toList args.toList ds p := hA0
  rw [Tryd.params7] at hA hval
  rw [Tryd.params7] at hsz
  obtain ⟨v0, vs0, d0, ds0, p0, q0, hargs, rfl, rfl, h0, r0⟩ := trodAll_cons hA
  obtain ⟨v1, vs1, d1, ds1, p1, q1, rfl, rfl, rfl, h1, r1⟩ := trodAll_cons r0
  obtain ⟨rfl, rfl, rfl⟩ := trodAll_nil r1
  obtain rfl : args = #[v0, v1] := by cases args; simp_all
  obtain ⟨rfl, rfl⟩ := trodVars_none hV
  obtain ⟨a0, rfl, rfl, rfl, w0⟩ := open_string Tryd.underlying9 (hval 0 9 v0 rfl rfl) h0
  obtain ⟨a1, rfl, rfl, rfl, w1⟩ := open_string Tryd.underlying9 (hval 1 9 v1 rfl rfl) h1
  have z0 : a0.size ≤ 140737488351232 := by simpa [reachBytes] using sized_string hsz (j := 0) (t := 9) rfl rfl
  have z1 : a1.size ≤ 140737488351232 := by simpa [reachBytes] using sized_string hsz (j := 1) (t := 9) rfl rfl
  have hT := tab_of hL
  clear hA0 hL hsz
  simp only [List.append_nil] at hW'
  refine (walk a0 a1 z0 z1 W hT).mono fun e W' ⟨he, hb⟩ => ?_
  subst he
  exact ⟨_, rfl, _, _, _, [], [], [], hW', trodAll_mk1 (shut_bool Tryd.underlying4 _), (trodAll_cons_mk (shut_string Tryd.underlying9 w0) (trodAll_cons_mk (shut_string Tryd.underlying9 w1) trodAll_mk0)), rfl, hb.frame _, fun h => by cases h⟩

theorem reads (os : Os) {H : Type} (enc : TypeId × Value → H) : ∃ places, DataW.whole enc Tryd.prog ((World.doorLaid Tryd.prog 400 os).forCall (fun _ _ => 0) ⟨#[], #[.string ⟨#[]⟩, .string ⟨#[]⟩], []⟩).memory Tryd.f7.params.toList Rows.pathqJoinsSpec.vars false #[Value.string ⟨#[]⟩, Value.string ⟨#[]⟩].toList 8 = some ([.lit (.string []), .lit (.string [])], [], places) :=
  ⟨[], by kernel_rfl⟩
theorem laid_met (os : Os) (args : Array Value) : laidMet Tryd.prog Rows.pathqJoinsRow.laid ((World.doorLaid Tryd.prog 400 os).forCall (fun _ _ => 0) ⟨#[], args, []⟩).memory :=
  laidMet_of_run' 8 (by kernel_rfl) (by kernel_rfl)

set_option maxRecDepth 100000 in
theorem lifted (os : Os) (started : os.Started) (H : Type) (enc : TypeId × Value → H) (F : Stop.Interp) :
    ReturnsInHanded {} Tryd.checked os 7 .any ((OpenSpec.ofChange Rows.pathqJoinsSpec).preRow enc Tryd.prog Tryd.f7 Rows.pathqJoinsRow.domain false Rows.pathqJoinsRow.laid) (((OpenSpec.ofChange Rows.pathqJoinsSpec).at F).post enc Tryd.prog Tryd.f7 false true false false) := by
  obtain ⟨places, hx⟩ := reads os enc
  refine returnsInHanded_of_row (C := Tryd.checked) (s := (OpenSpec.ofChange Rows.pathqJoinsSpec)) own started (by kernel_rfl) Tryd.func7
    (witness_row_at (enc := enc) (C := Tryd.checked) false (World.doorLaid Tryd.prog 400 os) #[.string ⟨#[]⟩, .string ⟨#[]⟩] rfl (by kernel_rfl) (by kernel_rfl) (by kernel_rfl)
      (OpenSpec.preRow_of_cond 8 hx (by kernel_rfl) (fun k hk => by cases hk) (by kernel_rfl) (laid_met os _))) ?_
  intro W base args ds gs before hval hW _ hcond hsz hL _ _
  exact contract H enc W base args ds gs before hval hW hL hsz

theorem over : Rows.PathqJoinsSaid :=
  OpenClaim.holds_of_cond 7 Tryd.f7 rfl rfl rfl rfl rfl rfl rfl ⟨rfl, rfl, rfl, rfl, rfl⟩ rfl rfl rfl rfl rfl (by kernel_rfl) Tryd.func7 (by kernel_rfl)
    (of_decide_eq_true (by kernel_rfl)) (by unfold Func.isWrapper; first | (rw [if_pos (by decide +kernel)]; kernel_rfl) | (rw [if_neg (by decide +kernel)]; exact ⟨rfl, rfl⟩))
    (fun os started H enc _ F => by rw [OpenClaim.pre_eq_preRow]; exact lifted os started H enc F)
theorem plain (f : FuncId) (fn : Func) (hf : Tryd.pinned.checked.prog.funcNamed Rows.pathqJoinsRow.func = some f) (hfn : Tryd.pinned.checked.prog.funcs[f]? = some fn) :
    false = Tryd.pinned.checked.prog.looks [] ∧ ∀ (j : Nat) t, fn.params[j]? = some t → Tryd.pinned.checked.prog.wantsStandIn t = false := by
  obtain rfl : f = 7 := Option.some.inj ((show Tryd.prog.funcNamed Rows.pathqJoinsRow.func = some 7 by kernel_rfl).symm.trans hf) |>.symm
  obtain rfl : fn = Tryd.f7 := (Option.some.inj (Tryd.func7.symm.trans hfn)).symm
  refine ⟨by kernel_rfl, fun j t ht => ?_⟩
  rw [Tryd.params7] at ht
  have hm : t ∈ [9, 9] := by simpa using Array.mem_of_getElem? ht
  have hall : ([9, 9].all fun u => !Tryd.prog.wantsStandIn u) = true := by kernel_rfl
  exact (show Tryd.prog.wantsStandIn t = false by simpa using List.all_eq_true.1 hall t hm)
end PathqJoins

theorem pathqJoins_holds : Rows.PathqJoinsCardSaid :=
  Claim7.holds_tied_plain_at .later [] _ _ _ _ PathqJoins.over (fun _ h => by cases h) (by kernel_rfl) (fun _ h => by cases h) pathqJoins_row_tie rfl ⟨rfl, rfl⟩ (by kernel_rfl) rfl PathqJoins.plain (by kernel_rfl)
#print axioms pathqJoins_holds
end Go.Proofs.YtncgkglebpobpaaDoor
