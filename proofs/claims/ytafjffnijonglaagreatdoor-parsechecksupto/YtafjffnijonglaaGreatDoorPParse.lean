/- The walk of parse.Parse: what is read is what the plain function says, in rows of the call's own; and of the laws' alive. -/
import Derived.Test.YtafjffnijonglaaGreatDoorPRead3
namespace Go.Proofs.YtafjffnijonglaaGreatDoor
open Go.RowKit Go.Shelf
def ParsePost (w : World) (res : Except L.Bad (List P.Itm)) (e : Ending) (w' : World) : Prop :=
  Below w.heap.size w w' ∧
  ((∃ (q e0 : Int), res = .error (q, e0) ∧ e0 ≠ 0 ∧ e = .returned (.tuple #[.slice none 0 0, .int .i64 q, .int .i64 e0])) ∨
   (∃ (l : List IV) (V : Value), res = .ok (l.map (·.1)) ∧ e = .returned (.tuple #[V, .int .i64 0, .int .i64 0]) ∧ ItmRow w.heap.size V l w'))
set_option maxRecDepth 100000 in
set_option maxHeartbeats 4000000 in
theorem parse_any (s : ByteArray) (w : World) (ht : Tab w) (hz : s.size ≤ 1048575) (res : Except L.Bad (List P.Itm)) (H : Hid (P.parseP s = res)) :
    Calls Tryz.prog 6 #[.string s] w (ParsePost w res) := by
  have HT := hid ht
  clear ht
  have D0 : Hid (DR w w.heap.size (.slice none 0 0) (.slice none 0 0) [] [] (w.alloc (.cells #[.slice none 0 0, .slice none 0 0] 38))) := hid
    ⟨HT.out, Nat.le_refl _, (Below.refl _ _).alloc (Nat.le_refl _) _, heap_alloc_new w _, ⟨World.ownsRow_nil _ _ _ _, by simp⟩, Or.inl ⟨rfl, rfl⟩⟩
  go_enter Tryz.func6, Tryz.ntmps6
  go_wp2
  go_loopw [6] (fun v6 W => ∃ (i g : Nat) (VI VN : Value) (its : List IV) (op : List ByteArray), v6 = .int .i64 (i : Int) ∧ i ≤ s.size ∧ s.size - i < g ∧ its.length ≤ i ∧ op.length ≤ i ∧ Hid (P.parseF g s i (its.map (·.1)) op = res) ∧ Hid (DR w w.heap.size VI VN its op W)) (fun v6 _ => s.size - (intOf v6).toNat)
  case atStart => exact ⟨0, s.size + 1, _, _, [], [], rfl, by omega, by omega, by simp, by simp, H, D0⟩
  case round =>
    clear H D0
    obtain ⟨i, g, VI, VN, its, op, rfl, hi, hg, hl, ho, H, HD⟩ := hrel
    by_cases hlt : i < s.size
    · have hlt' : (i : Int) < (s.size : Int) := by omega
      go_wp2_with fail
      refine Calls.mono (one_any s (i : Int) wr HD.out.tabw (by omega)) ?_
      rw [oneP_nat hlt]
      rintro e w1 ⟨hb1, ⟨q, e0, h1, h2, rfl⟩ | ⟨t, n, v, h1, rfl, h3⟩⟩
      · have HR : Hid (res = .error (q, e0)) := by show _ = _; rw [← H.out, P.parse_bad (by omega) hlt h1]
        have b1 : (e0 == 0) = false := beq_eq_false_iff_ne.2 h2
        have HE := hid h2
        have HB2 : Hid (Below w.heap.size w w1) := hid (HD.out.below hb1).bel
        clear h1 h2 hb1
        unfold zeroT
        go_wp2
        go_ret3
        refine ⟨HB2.out.alloc HB2.out.size _, Or.inl ⟨q, e0, HR.out, HE.out, rfl⟩⟩
      · have hn := L.one_go hlt h1
        obtain ⟨may, -, -⟩ := L.one_may hlt h1
        have HO := hid h1
        have HK := hid may.1
        have bs : w.heap.size ≤ wr.heap.size := HD.out.bel.size
        have H3 : Hid (w1.ownsRow w.heap.size 67 2 v t.attrs.length (encL t.attrs)) := hid (row_base h3 bs)
        obtain ⟨ao, nn, cp, rfl⟩ : ∃ ao nn cp, v = .slice ao nn cp := by
          rcases h3.2 with ⟨h, _⟩ | ⟨_, _, _, h, _⟩
          · exact ⟨_, _, _, h⟩
          · exact ⟨_, _, _, h⟩
        have D2 := hid ((HD.out.below hb1).new (.cells #[.int .i64 t.kind, .int .i64 (t.pos : Int), .string t.name, .string t.text, .slice ao nn cp] 40))
        have A2 := hid (World.ownsRow.alloc H3.out (.cells #[.int .i64 t.kind, .int .i64 (t.pos : Int), .string t.name, .string t.text, .slice ao nn cp] 40))
        have T2 := hid (heap_alloc_new w1 (.cells #[.int .i64 t.kind, .int .i64 (t.pos : Int), .string t.name, .string t.text, .slice ao nn cp] 40))
        have hnb : Hid (w1.heap.size ≠ w.heap.size ∧ w1.heap.size < (w1.alloc (.cells #[.int .i64 t.kind, .int .i64 (t.pos : Int), .string t.name, .string t.text, .slice ao nn cp] 40)).heap.size) := hid ⟨by have := (HD.out.below hb1).lt; omega, by simp⟩
        clear h1 hb1 h3 may HD H3
        unfold tokV
        go_wp2_with fail
        refine Calls.mono (take_any D2 t (.slice ao nn cp) A2 HK.out (by omega) (by omega)) ?_
        rintro e w3 (⟨e0, h4, h5, rfl, hb3, hk3⟩ | ⟨VI', VN', its', op', h4, rfl, hd3⟩)
        · have HR : Hid (res = .error ((t.pos : Int), e0)) := by show _ = _; rw [← H.out, P.parse_no (by omega) hlt HO.out h4]
          have b1 : (e0 == 0) = false := beq_eq_false_iff_ne.2 h5
          have HE := hid h5
          have HB := hid hb3
          have ct : w3.cell? ⟨w1.heap.size, 1, none⟩ = some (.int .i64 (t.pos : Int)) := by
            rw [cell_of_row w3 w1.heap.size 1 _ _ _ ((hk3 _ hnb.out.2 hnb.out.1).trans T2.out)]; rfl
          clear h4 h5 hb3 hk3 D2 A2 T2 hnb
          generalize w1.heap.size = Bt at *
          go_wp2_with fail
          go_quiet (fail)
          go_wp2
          go_ret3
          refine ⟨?_, Or.inl ⟨(t.pos : Int), e0, HR.out, HE.out, rfl⟩⟩
          first | exact HB.out | exact ⟨HB.out.os, HB.out.tape, HB.out.output, HB.out.size, HB.out.block⟩
        · have HN : Hid (P.parseF (g - 1) s n (its'.map (·.1)) op' = res) := by show _ = _; rw [← H.out, P.parse_next (by omega) hlt HO.out h4]
          have hle := P.take_len h4
          have D3 := hid hd3
          simp only [List.length_map] at hle
          clear h4 hd3 D2 A2 T2 hnb
          go_wp2
          go_roundw
          case rel => exact ⟨n, g - 1, _, _, its', op', rfl, by omega, by omega, by omega, by omega, HN, D3⟩
          case measure => simp [intOf]; omega
    · have hlt' : ¬ (i : Int) < (s.size : Int) := by omega
      obtain ⟨aoI, capI, rfl⟩ := HD.out.form
      have c0 := HD.out.cell 0
      simp only [List.getElem?_toArray, List.getElem?_cons_zero] at c0
      go_wp2_with fail
      refine (whole_any HD).mono ?_
      rintro e w1 ⟨rfl, rfl⟩
      have HR : Hid (res = (if its.length = 0 then .error ((s.size : Int), 40) else if op.length ≠ 0 then .error ((s.size : Int), 41) else .ok (its.map (·.1)))) := by
        show _ = _
        rw [← H.out, P.parse_end (by omega) (by omega)]
        simp only [List.length_map]
      by_cases h0 : its.length = 0
      · have HR2 := HR.out
        rw [if_pos h0] at HR2
        have HR3 := hid HR2
        rw [if_pos h0]
        have HB := hid HD.out.bel
        clear HR HR2 HD H h0 c0
        go_wp2
        go_ret3
        exact ⟨HB.out, Or.inl ⟨_, _, HR3.out, by decide, rfl⟩⟩
      · have HR2 := HR.out
        rw [if_neg h0] at HR2
        rw [if_neg h0]
        by_cases h1 : op.length ≠ 0
        · rw [if_pos h1] at HR2
          rw [if_pos h1]
          have HR3 := hid HR2
          have HB := hid HD.out.bel
          clear HR HR2 HD H h0 h1 c0
          go_wp2
          go_ret3
          exact ⟨HB.out, Or.inl ⟨_, _, HR3.out, by decide, rfl⟩⟩
        · rw [if_neg h1] at HR2
          rw [if_neg h1]
          have HR3 := hid HR2
          have HB := hid HD.out.bel
          have HI := hid HD.out.itm
          clear HR HR2 HD H h0 h1
          go_wp2
          go_ret3
          exact ⟨HB.out, Or.inr ⟨its, _, HR3.out, rfl, HI.out⟩⟩
end Go.Proofs.YtafjffnijonglaaGreatDoor
