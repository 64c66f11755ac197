/- PROVED: of any text, ParseWraps returns true: a document in an element is a document, one level deeper, if it is not too deep, nor too much; the text reads afterwards as it read before. Its conditions: the table of glyph lies as the program's text lays it. -/
import Derived.Test.YtafjffnijonglaaDoorPShape
import Derived.Test.YtafjffnijonglaaDoorPSame
import Derived.Test.YtafjffnijonglaaDoorPWrap
import Derived.Test.YtafjffnijonglaaDoorGLaid
import Derived.Test.YtafjffnijonglaaDoorTie
import Derived.Test.YtafjffnijonglaaDoorCards
import Derived.SevenTiedAt
import Derived.Deep.DeepHandedRow
namespace Go.Proofs.YtafjffnijonglaaDoor
open Go.ChangeShapes Go.WideShapes Go.ChangeAt Go.RowKit Go.Shelf
open Go.ChangeMaps (open_string shut_string)
namespace P
def deepF (l : List Itm) : Int := l.foldl (fun d x => max d x.level) 0
theorem deep_snoc (l : List Itm) (x : Itm) : deepF (l ++ [x]) = max (deepF l) x.level := by simp [deepF]
theorem deep_low : ∀ (l : List Itm) (d : Int), (∀ x ∈ l, x.level < 40) → 0 ≤ d → d < 40 → 0 ≤ l.foldl (fun d x => max d x.level) d ∧ l.foldl (fun d x => max d x.level) d < 40 ∧ (39 ≤ l.foldl (fun d x => max d x.level) d ↔ 39 ≤ d ∨ ∃ a ∈ l, 40 ≤ a.level + 1)
  | [], d, _, h1, h2 => by simp; omega
  | a :: l, d, h, h1, h2 => by
    have ha := h a (List.mem_cons_self ..)
    obtain ⟨i1, i2, i3⟩ := deep_low l (max d a.level) (fun x hx => h x (List.mem_cons_of_mem _ hx)) (by omega) (by omega)
    refine ⟨i1, i2, ?_⟩
    rw [List.foldl_cons, i3]
    constructor
    · rintro (q | ⟨x, hx, q⟩)
      · by_cases q2 : 39 ≤ d
        · exact Or.inl q2
        · exact Or.inr ⟨a, List.mem_cons_self .., by omega⟩
      · exact Or.inr ⟨x, List.mem_cons_of_mem _ hx, q⟩
    · rintro (q | ⟨x, hx, q⟩)
      · exact Or.inl (by omega)
      · rcases List.mem_cons.1 hx with rfl | hx
        · exact Or.inl (by omega)
        · exact Or.inr ⟨x, hx, q⟩
end P
def upV (x : IV) : IV := (P.up x.1, x.2)
namespace ParseWraps
set_option maxRecDepth 100000 in
set_option maxHeartbeats 8000000 in
theorem walk (s : ByteArray) (_ : s.size ≤ 140737488351232) (w : World) (ht : Tab w) :
    Calls Tryd.prog 8 #[.string s] w fun e w' => e = .returned (.bool true) ∧ Below w.heap.size w w' := by
  obtain ⟨i0, hi0, hz0, hz1, hz2⟩ := info_parts infoI
  have I0 := hid hi0
  have I1 := hid hz0
  have I2 := hid hz1
  have I3 := hid hz2
  clear hi0 hz0 hz1 hz2
  have HT := hid ht
  clear ht
  go_enter Tryd.func8, Tryd.ntmps8
  by_cases hs : 20000 < s.size
  · have hs' : (20000 : Int) < (s.size : Int) := by omega
    go_wp2_with fail
    refine (aliveP_any _ HT.out).mono ?_
    rintro e w2 ⟨rfl, hb2⟩
    have HB2 := hid hb2
    clear hb2
    go_wp2
    go_ret
    exact ⟨rfl, HB2.out⟩
  · have hs' : ¬ (20000 : Int) < (s.size : Int) := by omega
    obtain ⟨S, hS⟩ : ∃ S : ByteArray, S = ⟨#[60, 119, 62]⟩ ++ s ++ ⟨#[60, 47, 119, 62]⟩ := ⟨_, rfl⟩
    have HS := hid hS
    have HSZ : Hid (S.size ≤ 1048575) := hid (by
      rw [hS, L.app_size, L.app_size]
      show 3 + s.size + 4 ≤ 1048575
      omega)
    clear hS
    obtain ⟨res, HR⟩ : ∃ res, Hid (P.parseP s = res) := ⟨_, hid rfl⟩
    obtain ⟨res2, HR2⟩ : ∃ res, Hid (P.parseP S = res) := ⟨_, hid rfl⟩
    go_wp2_with fail
    refine Calls.mono (parse_any s w HT.out (by omega) res HR) ?_
    rintro e w1 ⟨hb1, ⟨q, e0, h1, h2, rfl⟩ | ⟨l, V, h1, rfl, h3⟩⟩
    · have b1 : (e0 == 0) = false := beq_eq_false_iff_ne.2 h2
      have HT1 := hid (HT.out.below hb1)
      have HB1 := hid hb1
      clear hb1 h1 h2 HR
      go_wp2_with fail
      rw [← HS.out]
      refine Calls.mono (parse_any S w1 HT1.out HSZ.out res2 HR2) ?_
      rintro e w2 ⟨hb2, ⟨q2, e2, _, _, rfl⟩ | ⟨l2, V2, _, rfl, _⟩⟩
      · have HT2 := hid (HT1.out.below hb2)
        have HB2 := hid (HB1.out.trans (hb2.mono HB1.out.size))
        clear hb2
        go_wp2_with fail
        refine (aliveP_any w2 HT2.out).mono ?_
        rintro e w3 ⟨rfl, hb3⟩
        have HB3 := hid (HB2.out.trans (hb3.mono HB2.out.size))
        clear hb3
        go_wp2
        go_ret
        exact ⟨rfl, HB3.out⟩
      · have HT2 := hid (HT1.out.below hb2)
        have HB2 := hid (HB1.out.trans (hb2.mono HB1.out.size))
        clear hb2
        go_wp2_with fail
        refine (aliveP_any w2 HT2.out).mono ?_
        rintro e w3 ⟨rfl, hb3⟩
        have HB3 := hid (HB2.out.trans (hb3.mono HB2.out.size))
        clear hb3
        go_wp2
        go_ret
        exact ⟨rfl, HB3.out⟩
    · have hp := HR.out.trans h1
      have hdoc := P.doc_of (P.parse_right hp)
      have HLow : Hid (∀ x ∈ l, 0 ≤ x.1.level ∧ x.1.level < 40) := hid (fun x hx => by
        obtain ⟨j, hj, rfl⟩ := List.getElem_of_mem hx
        have h4 := hdoc.1.low j (by simpa using hj)
        simp only [List.getElem_map] at h4
        refine ⟨?_, h4⟩
        rcases Nat.eq_zero_or_pos j with rfl | hp
        · have := (hdoc.1.root (by simpa using hj)).1
          simp only [List.getElem_map] at this
          omega
        · obtain ⟨j, rfl⟩ : ∃ q, j = q + 1 := ⟨j - 1, by omega⟩
          have := (hdoc.1.next j (by simpa using hj)).1
          simp only [List.getElem_map] at this
          omega)
      have HLen : Hid (l.length ≤ 1000) := hid (by
        have h4 := P.parse_right hp
        unfold P.checkP at h4
        rw [if_neg hdoc.2] at h4
        rcases Nat.lt_or_ge 1000 l.length with q | q
        · have := (P.item_ok (P.check_all _ _ _ h4 1000 (by simpa using q))).2.2.1
          omega
        · exact q)
      have hll := HLen.out
      have HW : Hid ((∃ z e, P.parseP S = .error (z, e) ∧ (e = 42 ∨ e = 43) ∧ P.Big (l.map (·.1))) ∨ (P.parseP S = .ok (P.wi :: (l.map (·.1)).map P.up) ∧ ¬ P.Big (l.map (·.1)))) := hid (by rw [HS.out]; exact P.parse_wraps hp)
      have HDeep := hid (P.deep_low (l.map (·.1)) 0 (fun x hx => by obtain ⟨y, hy, rfl⟩ := List.mem_map.1 hx; exact (HLow.out y hy).2) (by omega) (by omega))
      have HROW := hid h3
      obtain ⟨aoL, capL, rfl⟩ : ∃ ao cap, V = .slice ao l.length cap := by
        rcases h3.1.2 with ⟨h, h'⟩ | ⟨_, _, _, h, _⟩
        · exact ⟨none, 0, by rw [h, h']⟩
        · exact ⟨_, _, h⟩
      have HT1 := hid (HT.out.below hb1)
      have HB1 := hid hb1
      clear hb1 h1 h3 hp hdoc HR HLen
      go_wp2_with fail
      rw [← HS.out]
      refine Calls.mono (parse_any S w1 HT1.out HSZ.out res2 HR2) ?_
      intro e w2 hpost
      obtain ⟨vm, fe, rfl, hb2, hcase⟩ : ∃ (vm : Value × Int) (fe : Int), e = .returned (.tuple #[vm.1, .int .i64 vm.2, .int .i64 fe]) ∧ Below w1.heap.size w1 w2 ∧ ((fe = 42 ∨ fe = 43) ∧ P.Big (l.map (·.1)) ∨ fe = 0 ∧ ¬ P.Big (l.map (·.1)) ∧ ∃ l2 : List IV, l2.map (·.1) = P.wi :: (l.map (·.1)).map P.up ∧ ItmRow w1.heap.size vm.1 l2 w2) := by
        obtain ⟨hb2, ⟨q2, e2, h5, _, rfl⟩ | ⟨l2, V2, h5, rfl, h6⟩⟩ := hpost
        · refine ⟨(.slice none 0 0, q2), e2, rfl, hb2, Or.inl ?_⟩
          rcases HW.out with ⟨z, e, k1, k2, k3⟩ | ⟨k1, _⟩
          · have : Except.error (q2, e2) = (Except.error (z, e) : Except L.Bad (List P.Itm)) := h5.symm.trans (HR2.out.symm.trans k1)
            simp only [Except.error.injEq, Prod.mk.injEq] at this
            exact ⟨this.2 ▸ k2, k3⟩
          · have := h5.symm.trans (HR2.out.symm.trans k1)
            cases this
        · refine ⟨(V2, 0), 0, rfl, hb2, Or.inr ⟨rfl, ?_⟩⟩
          rcases HW.out with ⟨z, e, k1, k2, k3⟩ | ⟨k1, k2⟩
          · have := h5.symm.trans (HR2.out.symm.trans k1)
            cases this
          · have := h5.symm.trans (HR2.out.symm.trans k1)
            simp only [Except.ok.injEq] at this
            exact ⟨k2, l2, this, h6⟩
      obtain ⟨vm1, vm2⟩ := vm
      dsimp only at hcase ⊢
      have HCase := hid hcase
      have HB2 := hid (HB1.out.trans (hb2.mono HB1.out.size))
      have HROW2 := hid (HROW.out.below hb2)
      have HT2 := hid (HT1.out.below hb2)
      have hsz1 : w.heap.size ≤ w1.heap.size := HB1.out.size
      clear hcase hb2 hpost HROW HW HT1 HB1
      go_wp2
      go_loopw [9, 38] (fun v9 v38 W => ∃ k : Nat, v38 = .int .i64 (k : Int) ∧ k ≤ l.length ∧ v9 = .int .i64 (P.deepF ((l.take k).map (·.1))) ∧ Hid (Below w2.heap.size w2 W)) (fun _ v38 _ => l.length - (intOf v38).toNat)
      case atStart => exact ⟨0, rfl, by omega, by simp [P.deepF], hid (Below.refl _ _)⟩
      case round =>
        obtain ⟨k, rfl, hk, rfl, HB⟩ := hrel
        by_cases hlt : k < l.length
        · have hlt' : (k : Int) < (l.length : Int) := by omega
          have HI := (items_in HROW2.out).below HB.out
          obtain ⟨ao3, cap3, e3, _, hc⟩ := HI.1
          simp only [Value.slice.injEq, true_and] at e3
          obtain ⟨rfl, rfl⟩ := e3
          obtain ⟨g, o, rfl, hg, hc⟩ := hc (by rintro rfl; simp at hlt)
          obtain ⟨c0, c1, c2, c3, c4⟩ := hc k hlt
          obtain ⟨aoA, capA, eA, -, -⟩ := HI.2 _ (List.getElem_mem hlt)
          rw [eA] at c4
          have hlow := HLow.out _ (List.getElem_mem hlt)
          have HN : Hid (P.deepF ((l.take (k + 1)).map (·.1)) = max (P.deepF ((l.take k).map (·.1))) l[k].1.level) := hid (by
            rw [List.take_succ_eq_append_getElem hlt, List.map_append]
            exact P.deep_snoc _ _)
          have HB3 : Hid (Below w2.heap.size w2 (wr.alloc (.cells #[.int .i64 l[k].1.level, .int .i64 l[k].1.kind, .string l[k].1.name, .string l[k].1.text, .slice aoA l[k].1.attrs.length capA] 49))) := hid (HB.out.alloc HB.out.size _)
          clear hc HI eA
          generalize l[k].1.level = lv at *
          generalize P.deepF ((l.take k).map (·.1)) = d at *
          go_wp2
          go_roundw
          case rel => exact ⟨k + 1, by go_num, by omega, by rw [HN.out], HB3⟩
          case measure => (simp [intOf]; try omega)
        · have hlt' : ¬ (k : Int) < (l.length : Int) := by omega
          obtain rfl : k = l.length := by omega
          rw [List.take_length]
          have d0 : 0 ≤ P.deepF (l.map (·.1)) := HDeep.out.1
          have d1 : P.deepF (l.map (·.1)) < 40 := HDeep.out.2.1
          have hbig : P.Big (l.map (·.1)) ↔ 39 ≤ P.deepF (l.map (·.1)) ∨ 1000 < l.length + 1 := by
            have h5 := HDeep.out.2.2
            unfold P.Big P.deepF
            rw [h5]
            simp
          have HT3 := hid (HT2.out.below HB.out)
          have HB3 := hid (HB2.out.trans (HB.out.mono HB2.out.size))
          rcases HCase.out with ⟨hfe, hb⟩ | ⟨rfl, hb, l2, hl2, hrow2⟩
          · rw [hbig] at hb
            have hfe1 : (fe == 42) = true ∨ ((fe == 42) = false ∧ (fe == 43) = true) := by
              rcases hfe with rfl | rfl
              · exact Or.inl rfl
              · exact Or.inr ⟨rfl, rfl⟩
            clear HCase hbig HDeep hfe HLow HROW2
            generalize P.deepF (l.map (·.1)) = d at *
            by_cases hd : 40 ≤ d + 1
            · clear hb
              go_wp2_with fail
              refine (aliveP_any _ HT3.out).mono ?_
              rintro e w5 ⟨rfl, hb5⟩
              have HB5 := hid (HB3.out.trans (hb5.mono HB3.out.size))
              clear hb5
              rcases hfe1 with hf | ⟨hf, hf'⟩
              · go_wp2
                go_ret
                exact ⟨rfl, HB5.out⟩
              · go_wp2
                go_ret
                exact ⟨rfl, HB5.out⟩
            · have hl1 : (1000 : Int) < (l.length : Int) + 1 := by omega
              clear hb
              go_wp2_with fail
              refine (aliveP_any _ HT3.out).mono ?_
              rintro e w5 ⟨rfl, hb5⟩
              have HB5 := hid (HB3.out.trans (hb5.mono HB3.out.size))
              clear hb5
              rcases hfe1 with hf | ⟨hf, hf'⟩
              · go_wp2
                go_ret
                exact ⟨rfl, HB5.out⟩
              · go_wp2
                go_ret
                exact ⟨rfl, HB5.out⟩
          · rw [hbig] at hb
            have hd : ¬ 40 ≤ P.deepF (l.map (·.1)) + 1 := by omega
            have hl1 : ¬ (1000 : Int) < (l.length : Int) + 1 := by omega
            have HL2 := hid hl2
            have HRW2 := hid (hrow2.below HB.out)
            have HRL := hid (HROW2.out.below HB.out)
            have hws : w.heap.size ≤ wr.heap.size := HB3.out.size
            have HWant : Hid (ItmRow w.heap.size (.slice (some ⟨wr.heap.size, 0, none⟩) 1 1) [(P.wi, .slice none 0 0)] (wr.alloc (.cells #[.int .i64 0, .int .i64 1, .string ⟨#[119]⟩, .string ⟨#[]⟩, .slice none 0 0] 49))) := hid ⟨World.ownsRow_lit wr _ 1 hws (by decide) rfl, by
              intro x hx
              simp only [List.mem_singleton] at hx
              subst hx
              exact World.ownsRow_nil _ _ _ _⟩
            have HBW : Hid (Below wr.heap.size wr (wr.alloc (.cells #[.int .i64 0, .int .i64 1, .string ⟨#[119]⟩, .string ⟨#[]⟩, .slice none 0 0] 49))) := hid ((Below.refl _ _).alloc (Nat.le_refl _) _)
            have hfn : (0 : Int) ≤ 1 := by decide
            clear HCase hbig HDeep hb HROW2 hl2 hrow2
            generalize P.deepF (l.map (·.1)) = d at *
            go_wp2
            generalize hWB : wr.heap.size = WB at *
            generalize hW9 : wr = W9 at *
            go_loopw [12, 69] (fun v12 v69 W => ∃ k : Nat, v69 = .int .i64 (k : Int) ∧ k ≤ l.length ∧ Hid (ItmRow w.heap.size v12 ((P.wi, .slice none 0 0) :: (l.take k).map upV) W) ∧ Hid (∀ q, v12.ownBlock = some q → WB ≤ q) ∧ Hid (Below WB W9 W)) (fun _ v69 _ => l.length - (intOf v69).toNat)
            case atStart => exact ⟨0, rfl, by omega, HWant, hid (fun q hq => by simp [Value.ownBlock] at hq; omega), HBW⟩
            case round =>
              clear HWant HBW
              obtain ⟨k, rfl, hk, HWT, HQ, HBk⟩ := hrel
              subst hWB
              by_cases hlt : k < l.length
              · have hlt' : (k : Int) < (l.length : Int) := by omega
                have hlen : ((P.wi, Value.slice none 0 0) :: (l.take k).map upV).length = k + 1 := by simp; omega
                obtain ⟨ao5, cap5, rfl⟩ : ∃ ao cap, u12 = .slice ao (k + 1) cap := by
                  rcases HWT.out.1.2 with ⟨h, h'⟩ | ⟨_, _, _, h, _⟩
                  · rw [hlen] at h'; omega
                  · rw [hlen] at h; exact ⟨_, _, h⟩
                have HI := (items_in HRL.out).below HBk.out
                obtain ⟨ao3, cap3, e3, _, hc⟩ := HI.1
                simp only [Value.slice.injEq, true_and] at e3
                obtain ⟨rfl, rfl⟩ := e3
                obtain ⟨g, o, rfl, hg, hc⟩ := hc (by rintro rfl; simp at hlt)
                obtain ⟨c0, c1, c2, c3, c4⟩ := hc k hlt
                have HAR := hid ((HRL.out.below HBk.out).2 _ (List.getElem_mem hlt))
                obtain ⟨aoA, capA, eA, -, -⟩ := HI.2 _ (List.getElem_mem hlt)
                rw [eA] at c4
                have hlow := HLow.out _ (List.getElem_mem hlt)
                have hws2 : w.heap.size ≤ wr.heap.size := by have := HBk.out.size; omega
                have HBN : Hid (Below W9.heap.size W9 ((wr.alloc (.cells #[.int .i64 (l[k].1.level + 1), .int .i64 l[k].1.kind, .string l[k].1.name, .string l[k].1.text, .slice aoA l[k].1.attrs.length capA] 49)).alloc (.cells #[.int .i64 (l[k].1.level + 1), .int .i64 l[k].1.kind, .string l[k].1.name, .string l[k].1.text, .slice aoA l[k].1.attrs.length capA] 49))) := hid ((HBk.out.alloc HBk.out.size _).alloc (by have := HBk.out.size; simp; omega) _)
                have HO : Hid (((wr.alloc (.cells #[.int .i64 (l[k].1.level + 1), .int .i64 l[k].1.kind, .string l[k].1.name, .string l[k].1.text, .slice aoA l[k].1.attrs.length capA] 49)).alloc (.cells #[.int .i64 (l[k].1.level + 1), .int .i64 l[k].1.kind, .string l[k].1.name, .string l[k].1.text, .slice aoA l[k].1.attrs.length capA] 49)).ownsRow w.heap.size 49 5 (.slice ao5 (k + 1) cap5) (k + 1) (encI ((P.wi, .slice none 0 0) :: (l.take k).map upV))) := hid (World.ownsRow.alloc (World.ownsRow.alloc (hlen ▸ HWT.out.1) _) _)
                have HC : Hid (∀ q u, (encI1 (upV (l[k].1, .slice aoA l[k].1.attrs.length capA)))[q]? = some u → ((wr.alloc (.cells #[.int .i64 (l[k].1.level + 1), .int .i64 l[k].1.kind, .string l[k].1.name, .string l[k].1.text, .slice aoA l[k].1.attrs.length capA] 49)).alloc (.cells #[.int .i64 (l[k].1.level + 1), .int .i64 l[k].1.kind, .string l[k].1.name, .string l[k].1.text, .slice aoA l[k].1.attrs.length capA] 49)).cell? ((⟨wr.heap.size + 1, 0, none⟩ : Addr).add q) = some u) := hid (by
                  have h := heap_alloc_new (wr.alloc (.cells #[.int .i64 (l[k].1.level + 1), .int .i64 l[k].1.kind, .string l[k].1.name, .string l[k].1.text, .slice aoA l[k].1.attrs.length capA] 49)) (.cells #[.int .i64 (l[k].1.level + 1), .int .i64 l[k].1.kind, .string l[k].1.name, .string l[k].1.text, .slice aoA l[k].1.attrs.length capA] 49)
                  rw [show (wr.alloc (.cells #[.int .i64 (l[k].1.level + 1), .int .i64 l[k].1.kind, .string l[k].1.name, .string l[k].1.text, .slice aoA l[k].1.attrs.length capA] 49)).heap.size = wr.heap.size + 1 by simp] at h
                  exact World.news_of_block (cs := #[.int .i64 (l[k].1.level + 1), .int .i64 l[k].1.kind, .string l[k].1.name, .string l[k].1.text, .slice aoA l[k].1.attrs.length capA]) h)
                have hm : Hid (k + 1 + 1 ≤ maxLen ∧ (k + 1 + 1) * 72 ≤ 140737488355328 ∧ w.heap.size ≤ ((wr.alloc (.cells #[.int .i64 (l[k].1.level + 1), .int .i64 l[k].1.kind, .string l[k].1.name, .string l[k].1.text, .slice aoA l[k].1.attrs.length capA] 49)).alloc (.cells #[.int .i64 (l[k].1.level + 1), .int .i64 l[k].1.kind, .string l[k].1.name, .string l[k].1.text, .slice aoA l[k].1.attrs.length capA] 49)).heap.size) := hid ⟨by unfold maxLen; omega, by omega, by simp; omega⟩
                have HA2 : Hid (((wr.alloc (.cells #[.int .i64 (l[k].1.level + 1), .int .i64 l[k].1.kind, .string l[k].1.name, .string l[k].1.text, .slice aoA l[k].1.attrs.length capA] 49)).alloc (.cells #[.int .i64 (l[k].1.level + 1), .int .i64 l[k].1.kind, .string l[k].1.name, .string l[k].1.text, .slice aoA l[k].1.attrs.length capA] 49)).ownsRow w.heap.size 40 2 (.slice aoA l[k].1.attrs.length capA) l[k].1.attrs.length (encL l[k].1.attrs)) := hid (World.ownsRow.alloc (World.ownsRow.alloc (eA ▸ HAR.out) _) _)
                have HNL : Hid ((P.wi, Value.slice none 0 0) :: (l.take (k + 1)).map upV = ((P.wi, Value.slice none 0 0) :: (l.take k).map upV) ++ [upV (l[k].1, .slice aoA l[k].1.attrs.length capA)]) := hid (by
                  rw [List.take_succ_eq_append_getElem hlt, List.map_append]
                  have : upV l[k] = upV (l[k].1, .slice aoA l[k].1.attrs.length capA) := by rw [← eA]
                  simp [this])
                have H15 := hid (one_fiveI (upV (l[k].1, .slice aoA l[k].1.attrs.length capA)) rfl)
                clear hc HI eA HAR
                go_wp2_with (
                  at_builtin
                  refine wpList_append_lies _ rfl (.tmp 77) (.tmp 79) 41 rfl w.heap.size 49 i0 (.agg #[.int .i64 0, .int .i64 0, .string ⟨#[]⟩, .string ⟨#[]⟩, .slice none 0 0]) 5 72 Tryd.underlying41 I0.out I1.out I2.out I3.out rfl (by decide) _ (k + 1) (encI ((P.wi, .slice none 0 0) :: (l.take k).map upV)) rfl HO.out ⟨wr.heap.size + 1, 0, none⟩ 1 1 (encI1 (upV (l[k].1, .slice aoA l[k].1.attrs.length capA))) rfl rfl HC.out H15.out (by decide) hm.out.1 hm.out.2.1 hm.out.2.2 (wr.heap.size + 2) (by simp) ?_
                  intro g' cap' w4 hown hgrow hgl _)
                have HQ4 : Hid (∀ q, (Value.slice (some ⟨g', 0, none⟩) (k + 1 + 1) cap').ownBlock = some q → W9.heap.size ≤ q) := hid (fun q hq => by
                  have hq' : g' = q := by simpa [Value.ownBlock] using hq
                  subst hq'
                  rcases hgl with h | h
                  · exact HQ.out _ h
                  · have := HBk.out.size
                    omega)
                have HB4 : Hid (Below W9.heap.size W9 w4) := hid (HBN.out.grown hgrow HBN.out.size (fun q hq => HQ.out q hq))
                have HW4 : Hid (ItmRow w.heap.size (.slice (some ⟨g', 0, none⟩) (k + 1 + 1) cap') ((P.wi, .slice none 0 0) :: (l.take (k + 1)).map upV) w4) := hid (by
                  rw [HNL.out]
                  refine ⟨by rw [encI_snoc, List.length_append, hlen]; exact hown, fun x hx => ?_⟩
                  rcases List.mem_append.1 hx with hx | hx
                  · have h7 := World.ownsRow.alloc (World.ownsRow.alloc (HWT.out.2 x hx) (.cells #[.int .i64 (l[k].1.level + 1), .int .i64 l[k].1.kind, .string l[k].1.name, .string l[k].1.text, .slice aoA l[k].1.attrs.length capA] 49)) (.cells #[.int .i64 (l[k].1.level + 1), .int .i64 l[k].1.kind, .string l[k].1.name, .string l[k].1.text, .slice aoA l[k].1.attrs.length capA] 49)
                    exact World.ownsRow.kept h7 hgrow (rows_two h7 HO.out (by decide))
                  · simp only [List.mem_singleton] at hx
                    subst hx
                    exact World.ownsRow.kept HA2.out hgrow (rows_two HA2.out HO.out (by decide)))
                clear hown hgrow hgl HO HC HA2 HNL H15 HWT HBN HQ
                go_wp2
                go_roundw
                case rel => exact ⟨k + 1, by go_num, by omega, HW4, HQ4, HB4⟩
                case measure => (simp [intOf]; try omega)
              · have hlt' : ¬ (k : Int) < (l.length : Int) := by omega
                obtain rfl : k = l.length := by omega
                have HM := hid (items_in (HRW2.out.below HBk.out))
                have HWI := hid (items_in HWT.out)
                have HE : Hid (l2.map (·.1) = ((P.wi, Value.slice none 0 0) :: (l.take l.length).map upV).map (·.1)) := hid (by
                  rw [HL2.out, List.take_length]
                  simp [upV, Function.comp_def])
                have HT4 := hid (HT3.out.below HBk.out)
                have HB4 := hid (HB3.out.trans (HBk.out.mono HB3.out.size))
                clear HWT HQ HRW2 HRL HLow HL2
                go_wp2_with fail
                refine (aliveP_any _ HT4.out).mono ?_
                rintro e w5 ⟨rfl, hb5⟩
                have HM5 := hid (HM.out.below hb5)
                have HW5 := hid (HWI.out.below hb5)
                have HB5 := hid (HB4.out.trans (hb5.mono HB4.out.size))
                clear hb5 HM HWI
                go_wp2_with fail
                refine (sameI_any _ _ _ _ w5 HM5 HW5 HE.out).mono ?_
                rintro e w6 ⟨rfl, hb6⟩
                have HB6 := hid (HB5.out.trans (hb6.mono HB5.out.size))
                clear hb6
                go_wp2
                go_ret
                exact ⟨rfl, HB6.out⟩

set_option maxRecDepth 100000 in
theorem contract (H : Type) (enc : TypeId × Value → H) (W : World) (base : Nat) (args : Array Value) (ds gs : List (DataW H)) (before : List MemPlace)
    (hval : ∀ (j : Nat) t v, Tryd.f8.params[j]? = some t → args[j]? = some v → Value.okWide Tryd.prog W .any base t v)
    (hW : DataW.Whole enc Tryd.prog Tryd.f8.params.toList Rows.parseWrapsSpec.vars false W args.toList ds gs before) (hL : laidMetH Tryd.prog laidT W)
    (hsz : (DataW.weightsEach Tryd.prog (Tryd.f8.params.toList ++ (OpenSpec.ofChange Rows.parseWrapsSpec).bare.plain.varTypes Tryd.prog) (ds ++ gs)).all (· ≤ reachBytes) = true) :
    Calls Tryd.prog 8 args W fun e W' => ∃ v, e = .returned v ∧ Rows.parseWrapsSpec.post enc Tryd.prog Tryd.f8 false true false false W args v W' := by
  have hW' := hW
  obtain ⟨p, q, hA0, hV, rfl, hfz, hnd⟩ := hW
  have hA : DataW.TrodAll enc Tryd.prog W 0 (fun _ => true) true Tryd.f8.params.toList args.toList ds p := hA0
  rw [Tryd.params8] at hA hval
  rw [Tryd.params8] at hsz
  obtain ⟨v0, vs0, d0, ds0, p0, q0, hargs, rfl, rfl, h0, r0⟩ := trodAll_cons hA
  obtain ⟨rfl, rfl, rfl⟩ := trodAll_nil r0
  obtain rfl : args = #[v0] := by cases args; simp_all
  obtain ⟨rfl, rfl⟩ := trodVars_none hV
  obtain ⟨a0, rfl, rfl, rfl, w0⟩ := open_string Tryd.underlying9 (hval 0 9 v0 rfl rfl) h0
  have z0 : a0.size ≤ 140737488351232 := by simpa [reachBytes] using sized_string hsz (j := 0) (t := 9) rfl rfl
  have hT := tab_of hL
  clear hA0 hL hsz
  simp only [List.append_nil] at hW'
  refine (walk a0 z0 W hT).mono fun e W' ⟨he, hb⟩ => ?_
  subst he
  exact ⟨_, rfl, _, _, _, [], [], [], hW', trodAll_mk1 (shut_bool Tryd.underlying4 _), (trodAll_cons_mk (shut_string Tryd.underlying9 w0) trodAll_mk0), rfl, hb.frame _, fun h => by cases h⟩

theorem reads (os : Os) {H : Type} (enc : TypeId × Value → H) : ∃ places, DataW.whole enc Tryd.prog ((World.doorLaid Tryd.prog 400 os).forCall (fun _ _ => 0) ⟨#[], #[.string ⟨#[]⟩], []⟩).memory Tryd.f8.params.toList Rows.parseWrapsSpec.vars false #[Value.string ⟨#[]⟩].toList 8 = some ([.lit (.string [])], [], places) :=
  ⟨[], by kernel_rfl⟩
theorem laid_met (os : Os) (args : Array Value) : laidMet Tryd.prog Rows.parseWrapsRow.laid ((World.doorLaid Tryd.prog 400 os).forCall (fun _ _ => 0) ⟨#[], args, []⟩).memory :=
  laidMet_of_run' 8 (by kernel_rfl) (by kernel_rfl)

set_option maxRecDepth 100000 in
theorem lifted (os : Os) (started : os.Started) (H : Type) (enc : TypeId × Value → H) (F : Stop.Interp) :
    ReturnsInHanded {} Tryd.checked os 8 .any ((OpenSpec.ofChange Rows.parseWrapsSpec).preRow enc Tryd.prog Tryd.f8 Rows.parseWrapsRow.domain false Rows.parseWrapsRow.laid) (((OpenSpec.ofChange Rows.parseWrapsSpec).at F).post enc Tryd.prog Tryd.f8 false true false false) := by
  obtain ⟨places, hx⟩ := reads os enc
  refine returnsInHanded_of_row (C := Tryd.checked) (s := (OpenSpec.ofChange Rows.parseWrapsSpec)) own started (by kernel_rfl) Tryd.func8
    (witness_row_at (enc := enc) (C := Tryd.checked) false (World.doorLaid Tryd.prog 400 os) #[.string ⟨#[]⟩] rfl (by kernel_rfl) (by kernel_rfl) (by kernel_rfl)
      (OpenSpec.preRow_of_cond 8 hx (by kernel_rfl) (fun k hk => by cases hk) (by kernel_rfl) (laid_met os _))) ?_
  intro W base args ds gs before hval hW _ hcond hsz hL _ _
  exact contract H enc W base args ds gs before hval hW hL hsz

theorem over : Rows.ParseWrapsSaid :=
  OpenClaim.holds_of_cond 8 Tryd.f8 rfl rfl rfl rfl rfl rfl rfl ⟨rfl, rfl, rfl, rfl, rfl⟩ rfl rfl rfl rfl rfl (by kernel_rfl) Tryd.func8 (by kernel_rfl)
    (of_decide_eq_true (by kernel_rfl)) (by unfold Func.isWrapper; first | (rw [if_pos (by decide +kernel)]; kernel_rfl) | (rw [if_neg (by decide +kernel)]; exact ⟨rfl, rfl⟩))
    (fun os started H enc _ F => by rw [OpenClaim.pre_eq_preRow]; exact lifted os started H enc F)
theorem plain (f : FuncId) (fn : Func) (hf : Tryd.pinned.checked.prog.funcNamed Rows.parseWrapsRow.func = some f) (hfn : Tryd.pinned.checked.prog.funcs[f]? = some fn) :
    false = Tryd.pinned.checked.prog.looks [] ∧ ∀ (j : Nat) t, fn.params[j]? = some t → Tryd.pinned.checked.prog.wantsStandIn t = false := by
  obtain rfl : f = 8 := Option.some.inj ((show Tryd.prog.funcNamed Rows.parseWrapsRow.func = some 8 by kernel_rfl).symm.trans hf) |>.symm
  obtain rfl : fn = Tryd.f8 := (Option.some.inj (Tryd.func8.symm.trans hfn)).symm
  refine ⟨by kernel_rfl, fun j t ht => ?_⟩
  rw [Tryd.params8] at ht
  have hm : t ∈ [9] := by simpa using Array.mem_of_getElem? ht
  have hall : ([9].all fun u => !Tryd.prog.wantsStandIn u) = true := by kernel_rfl
  exact (show Tryd.prog.wantsStandIn t = false by simpa using List.all_eq_true.1 hall t hm)
end ParseWraps

theorem parseWraps_holds : Rows.ParseWrapsCardSaid :=
  Claim7.holds_tied_plain_at .later [] _ _ _ _ ParseWraps.over (fun _ h => by cases h) (by kernel_rfl) (fun _ h => by cases h) parseWraps_row_tie rfl ⟨rfl, rfl⟩ (by kernel_rfl) rfl ParseWraps.plain (by kernel_rfl)
#print axioms parseWraps_holds
end Go.Proofs.YtafjffnijonglaaDoor
