/- The walk of alive of layer 5: a document as a text. -/
import Derived.Test.YtmnegpdegfianaaDoorS4
import Derived.Deep.CutRange
import Derived.Deep.RegionHeld3
import Derived.Test.YtmnegpdegfianaaDoorS2
import Derived.Test.YtmnegpdegfianaaDoorPCheck
namespace Go.Proofs.YtmnegpdegfianaaDoor
open Go.RowKit Go.Shelf
set_option maxRecDepth 100000 in
set_option maxHeartbeats 16000000 in
theorem write_any {b bl bp bw base : Nat} {V : Value} {l : List IV} {W0 : World} (m : List P.Itm) (HM : Hid (l.map (·.1) = m)) (HD : Hid (S.Docs m)) (HF : Hid (∀ x ∈ m, x.text.size ≤ 20000000 ∧ ∀ a ∈ x.attrs, a.2.size ≤ 20000000)) : ∀ (n k : Nat) (hk : k < m.length) (op : List ByteArray) (acc : List UInt8) (w : World), Hid (S.eN m k m[k].level ≤ k + n) → Hid (m[k].level = (op.length : Int)) → Hid (PG b bl bp bw base V l acc W0 w) → Hid (acc.length + (S.itemT m k hk op).length ≤ 140737488355328) →
    Calls Tryd.prog 29 #[.int .i64 (k : Int), .pointer (some ⟨bl, 0, none⟩), .pointer (some ⟨bp, 0, none⟩), .pointer (some ⟨bw, 0, none⟩)] w fun e w' => e = .returned (.tuple #[]) ∧ PG b bl bp bw base V l (acc ++ S.itemT m k hk op) W0 w' ∧ Lib.OthersKept 5 (some b) w w' := by
  intro n
  induction n with
  | zero =>
    intro k hk op acc w h1 _ _ _
    exact absurd (S.eN_facts hk).1 (by have := h1.out; omega)
  | succ n ih =>
    intro k hk op acc w HE HO HP HL
    have IH := hid ih
    clear ih
    have hll : l.length = m.length := by rw [← HM.out]; simp
    have hkl : k < l.length := by omega
    have hkl' : (k : Int) < (l.length : Int) := by omega
    have HLL := hid hll
    clear hll
    have II := hid (items_in HP.out.items)
    obtain ⟨ao, cap, rfl, _, hc⟩ := II.out.1
    obtain ⟨g, o, rfl, hg, hc⟩ := hc (by rintro rfl; simp at hkl)
    obtain ⟨k0, k1, k2, k3, k4⟩ := hc k hkl
    have HAT : Hid (AttrsIn l[k].2 l[k].1.attrs w) := hid (II.out.2 _ (List.getElem_mem hkl))
    have HMK : Hid (l[k].1 = m[k]) := hid (by have := HM.out; subst this; simp)
    have HMM : Hid (m[k] ∈ m) := hid (List.getElem_mem hk)
    rw [HMK.out] at k0 k1 k2 k3 HAT
    have cb : w.cell? ⟨bl, 0, none⟩ = some (.slice (some ⟨g, o, none⟩) l.length cap) := by rw [Lib.cell_of_heap HP.out.row]; rfl
    obtain ⟨ar, HAR⟩ : ∃ ar, Hid (S.itemT m k hk op = ar) := ⟨_, hid rfl⟩
    rw [HAR.out] at HL ⊢
    have HEN := hid (S.endP_eN hk)
    have HEF := hid (S.eN_facts hk)
    generalize hen : S.eN m k m[k].level = en at *
    have HHEN := hid hen
    have HIT : Hid (ar = S.itemL m[k] (S.sl m (k + 1) en) op) := hid (by rw [← HAR.out, ← HHEN.out]; rfl)
    have he1 : k < en := HEF.out.1
    have he2 : en ≤ m.length := HEF.out.2.1
    clear HAR hen hc
    obtain ⟨x, HX⟩ : ∃ x, Hid (m[k] = x) := ⟨_, hid rfl⟩
    rw [HX.out] at k0 k1 k2 k3 HAT HMM HIT HO
    obtain ⟨lv, kd, nm, tx, ats⟩ := x
    dsimp only at *
    generalize l[k].2 = v at *
    obtain ⟨va, vc, rfl, _⟩ := HAT.out
    have HG := hid hg
    clear hg
    go_enter Tryd.func29, Tryd.ntmps29
    have SB : Hid (∀ w' : World, Below w.heap.size w w' → (w'.cell? ⟨bl, 0, none⟩ = some (.slice (some ⟨g, o, none⟩) l.length cap) ∧ w'.cell? ⟨g, o + k * 5, none⟩ = some (.int .i64 lv) ∧ w'.cell? ⟨g, o + k * 5 + 1, none⟩ = some (.int .i64 kd) ∧ w'.cell? ⟨g, o + k * 5 + 2, none⟩ = some (.string nm) ∧ w'.cell? ⟨g, o + k * 5 + 3, none⟩ = some (.string tx) ∧ w'.cell? ⟨g, o + k * 5 + 4, none⟩ = some (.slice va ats.length vc))) := hid (fun w' hb => ⟨(hb.cell (p := ⟨bl, 0, none⟩) (lt_of_block (w := w) HP.out.row)).trans cb, (hb.cell (p := ⟨g, o + k * 5, none⟩) HG.out).trans k0, (hb.cell (p := ⟨g, o + k * 5 + 1, none⟩) HG.out).trans k1, (hb.cell (p := ⟨g, o + k * 5 + 2, none⟩) HG.out).trans k2, (hb.cell (p := ⟨g, o + k * 5 + 3, none⟩) HG.out).trans k3, (hb.cell (p := ⟨g, o + k * 5 + 4, none⟩) HG.out).trans k4⟩)
    clear k0 k1 k2 k3 k4 cb
    go_upto_region 0 with fail
    go_cut [5, 6] from 8 to 14 (fun s5 s6 wx => ∃ bi : Nat, s5 = .pointer (some ⟨bi, 0, none⟩) ∧ s6 = .int .i64 (en : Int) ∧ w.heap.size ≤ bi ∧ Hid (wx.heap[bi]? = some (.cells #[.int .i64 lv, .int .i64 kd, .string nm, .string tx, .slice va ats.length vc] 32 (0, 0))) ∧ Hid (Below w.heap.size w wx))
    case first =>
      go_region_held3 (fun w' => w'.cell? ⟨bl, 0, none⟩ = some (.slice (some ⟨g, o, none⟩) l.length cap) ∧ w'.cell? ⟨g, o + k * 5, none⟩ = some (.int .i64 lv) ∧ w'.cell? ⟨g, o + k * 5 + 1, none⟩ = some (.int .i64 kd) ∧ w'.cell? ⟨g, o + k * 5 + 2, none⟩ = some (.string nm) ∧ w'.cell? ⟨g, o + k * 5 + 3, none⟩ = some (.string tx) ∧ w'.cell? ⟨g, o + k * 5 + 4, none⟩ = some (.slice va ats.length vc)) ((refine SB.out _ ?_; repeat' (first | exact HB5.out | exact Below.refl _ _ | exact Nat.le_refl _ | exact HB5.out.size | refine Below.drew ?_ | refine Below.alloc ?_ ?_ _ | refine Below.setCell ?_ ?_ _))) (first
        | (go_at_call 30
           refine (end_any (hid (II.out.below (Below.drew (Below.refl _ _)))) (k : Int)).mono ?_
           rintro e w5 ⟨rfl, hb5⟩
           rw [HM.out, HEN.out]
           have HB5 : Hid (Below w.heap.size w w5) := hid (Below.trans (Below.drew (Below.refl _ _)) hb5)
           clear hb5)
        | (go_at_call 30
           refine (end_any (hid (II.out.below (Below.drew (below_new w (.cells #[.int .i64 0, .int .i64 0, .string ⟨#[]⟩, .string ⟨#[]⟩, .slice none 0 0] 32))))) (k : Int)).mono ?_
           rintro e w5 ⟨rfl, hb5⟩
           rw [HM.out, HEN.out]
           have HB5 : Hid (Below w.heap.size w w5) := hid (Below.trans (Below.drew (below_new w _)) (hb5.mono (by simp)))
           have hz : w5.heap[w.heap.size]? = some (.cells #[.int .i64 0, .int .i64 0, .string ⟨#[]⟩, .string ⟨#[]⟩, .slice none 0 0] 32 (0, 0)) := (hb5.block w.heap.size (by simp)).trans (heap_alloc_new w _)
           have HZ := hid hz
           have z0 : w5.cell? ⟨w.heap.size, 0, none⟩ = some (.int .i64 0) := by rw [Lib.cell_of_heap hz]; rfl
           have f0 : w5.frozen? ⟨w.heap.size, 0, none⟩ = false := Lib.frozen_of_heap hz 0
           have z1 : w5.cell? ⟨w.heap.size, 1, none⟩ = some (.int .i64 0) := by rw [Lib.cell_of_heap hz]; rfl
           have f1 : w5.frozen? ⟨w.heap.size, 1, none⟩ = false := Lib.frozen_of_heap hz 1
           have z2 : w5.cell? ⟨w.heap.size, 2, none⟩ = some (.string ⟨#[]⟩) := by rw [Lib.cell_of_heap hz]; rfl
           have f2 : w5.frozen? ⟨w.heap.size, 2, none⟩ = false := Lib.frozen_of_heap hz 2
           have z3 : w5.cell? ⟨w.heap.size, 3, none⟩ = some (.string ⟨#[]⟩) := by rw [Lib.cell_of_heap hz]; rfl
           have f3 : w5.frozen? ⟨w.heap.size, 3, none⟩ = false := Lib.frozen_of_heap hz 3
           have z4 : w5.cell? ⟨w.heap.size, 4, none⟩ = some (.slice none 0 0) := by rw [Lib.cell_of_heap hz]; rfl
           have f4 : w5.frozen? ⟨w.heap.size, 4, none⟩ = false := Lib.frozen_of_heap hz 4
           clear hb5 hz)
        | (go_at_call 30
           refine (end_any (hid (II.out.below (Below.drew (below_new w (.cells #[.int .i64 lv, .int .i64 kd, .string nm, .string tx, .slice va ats.length vc] 32))))) (k : Int)).mono ?_
           rintro e w5 ⟨rfl, hb5⟩
           rw [HM.out, HEN.out]
           have HB5 : Hid (Below w.heap.size w w5) := hid (Below.trans (Below.drew (below_new w _)) (hb5.mono (by simp)))
           have hz : w5.heap[w.heap.size]? = some (.cells #[.int .i64 lv, .int .i64 kd, .string nm, .string tx, .slice va ats.length vc] 32 (0, 0)) := (hb5.block w.heap.size (by simp)).trans (heap_alloc_new w _)
           have HZ := hid hz
           clear hb5 hz))
      all_goals (go_wp2_with fail; go_meet)
      · exact ⟨w5.heap.size, rfl, rfl, HB5.out.size, hid (heap_alloc_new _ _), hid (HB5.out.alloc HB5.out.size _)⟩
      · refine ⟨w.heap.size, rfl, rfl, Nat.le_refl _, hid ?_, hid ?_⟩
        · have s0 := heap_setCell_same _ _ 0 _ _ (.int .i64 lv) HZ.out
          have s1 := heap_setCell_same _ _ 1 _ _ (.int .i64 kd) s0
          have s2 := heap_setCell_same _ _ 2 _ _ (.string nm) s1
          have s3 := heap_setCell_same _ _ 3 _ _ (.string tx) s2
          exact heap_setCell_same _ _ 4 _ _ (.slice va ats.length vc) s3
        · exact ((((HB5.out.setCell (p := ⟨w.heap.size, 0, none⟩) (Nat.le_refl _) _).setCell (p := ⟨w.heap.size, 1, none⟩) (Nat.le_refl _) _).setCell (p := ⟨w.heap.size, 2, none⟩) (Nat.le_refl _) _).setCell (p := ⟨w.heap.size, 3, none⟩) (Nat.le_refl _) _).setCell (p := ⟨w.heap.size, 4, none⟩) (Nat.le_refl _) _
    case rest =>
      obtain ⟨bi, rfl, rfl, hbi, HI, HBx⟩ := hcut
      have HPx := hid (HP.out.quiet HBx.out)
      have HOx := hid (kept_below (e := 5) (b := some b) HBx.out)
      have HATx := hid (HAT.out.below HBx.out)
      have SB2 : Hid (∀ w' : World, Lib.OthersKept 5 (some b) wc w' → (w'.cell? ⟨bp, 0, none⟩ = some (.func (.func 28) #[.pointer (some ⟨b, 0, none⟩)] #[]) ∧ w'.cell? ⟨bi, 0, none⟩ = some (.int .i64 lv) ∧ w'.cell? ⟨bi, 1, none⟩ = some (.int .i64 kd) ∧ w'.cell? ⟨bi, 2, none⟩ = some (.string nm) ∧ w'.cell? ⟨bi, 3, none⟩ = some (.string tx) ∧ w'.cell? ⟨bi, 4, none⟩ = some (.slice va ats.length vc))) := hid (fun w' hk => by
        have q := block_kept HPx.out.page hk HPx.out.put (by decide) (by decide)
        have i := block_kept HPx.out.page hk HI.out (by decide) (by decide)
        exact ⟨by rw [Lib.cell_of_heap q]; rfl, by rw [Lib.cell_of_heap i]; rfl, by rw [Lib.cell_of_heap i]; rfl, by rw [Lib.cell_of_heap i]; rfl, by rw [Lib.cell_of_heap i]; rfl, by rw [Lib.cell_of_heap i]; rfl⟩)
      have c1 : wc.cell? ⟨bi, 1, none⟩ = some (.int .i64 kd) := (SB2.out wc (Lib.OthersKept.refl _ _ _)).2.2.1
      have HFx := hid (HF.out _ HMM.out)
      clear HP HBx HAT SB II
      by_cases h2 : kd = 2
      · have h2' : (kd == 2) = true := beq_iff_eq.2 h2
        have HIT2 : Hid (ar = S.txtL tx) := hid (by rw [HIT.out]; unfold S.itemL; rw [if_pos h2])
        obtain ⟨r, HR⟩ : ∃ r : ByteArray, Hid (S.txtL tx = r.data.toList) := ⟨S.bA _, hid rfl⟩
        have HLP : Hid (acc.length + r.size ≤ 140737488355328) := hid (by
          have q := HL.out
          rw [HIT2.out, HR.out] at q
          simpa using q)
        clear h2
        go_upto_region 8 with fail
        go_region_held3 (fun w' => w'.cell? ⟨bp, 0, none⟩ = some (.func (.func 28) #[.pointer (some ⟨b, 0, none⟩)] #[]) ∧ w'.cell? ⟨bi, 0, none⟩ = some (.int .i64 lv) ∧ w'.cell? ⟨bi, 1, none⟩ = some (.int .i64 kd) ∧ w'.cell? ⟨bi, 2, none⟩ = some (.string nm) ∧ w'.cell? ⟨bi, 3, none⟩ = some (.string tx) ∧ w'.cell? ⟨bi, 4, none⟩ = some (.slice va ats.length vc)) ((refine SB2.out _ ?_; first | exact K7.out | exact K6.out | exact (Lib.OthersKept.refl _ _ _).drew | exact K6.out.alloc _)) (first
          | (go_at_call 31
             refine (written_text tx r _ ((HPx.out.quiet (Below.drew (Below.refl _ _))).tabw) HFx.out.1 HR).mono ?_
             rintro e w6 ⟨rfl, hb6⟩
             have P6 : Hid (PG b bl bp bw base (.slice (some ⟨g, o, none⟩) l.length cap) l acc W0 w6) := hid ((HPx.out.quiet (Below.drew (Below.refl _ _))).quiet hb6)
             have K6 : Hid (Lib.OthersKept 5 (some b) wc w6) := hid (((Lib.OthersKept.refl _ _ wc).drew).trans (kept_below hb6))
             clear hb6)
          | (go_at_call 28
             refine (put1 b b acc r w6 _ (by simp) P6.out.page P6.out.le HLP.out).mono ?_
             rintro e w7 ⟨rfl, p7, b7, k7⟩
             have P7 := hid (P6.out.kept k7 b7 p7)
             have K7 := hid (K6.out.trans k7)
             clear p7 b7 k7))
        all_goals
          go_wp2
          go_end0
          exact ⟨rfl, by rw [HIT2.out, HR.out]; exact P7.out, HOx.out.trans K7.out⟩
      · have h2' : (kd == 2) = false := beq_eq_false_iff_ne.2 h2
        obtain ⟨r, HR⟩ : ∃ r : ByteArray, Hid (nm.data.toList ++ S.attsL (S.evs ats) = r.data.toList) := ⟨S.bA _, hid rfl⟩
        have HTG : Hid (S.tagL nm (S.evs ats) = [60] ++ r.data.toList) := hid (by rw [← HR.out]; rfl)
        have HV : Hid (∀ a ∈ ats, a.2.size ≤ 20000000) := hid HFx.out.2
        by_cases h3 : en = k + 1
        · have h3' : ((en : Int) == (k : Int) + 1) = true := beq_iff_eq.2 (by omega)
          have HIT2 : Hid (ar = [60] ++ (r.data.toList ++ [47, 62])) := hid (by rw [HIT.out]; unfold S.itemL; rw [if_neg h2, if_pos (S.sl_nil (by omega)), HTG.out, List.append_assoc])
          have HLP : Hid (acc.length + (1 + r.size + 2) ≤ 140737488355328) := hid (by
            have q := HL.out
            rw [HIT2.out] at q
            simp only [List.length_append, List.length_cons, List.length_nil, Array.length_toList, ByteArray.size_data] at q
            omega)
          have HLH : nm.size + (S.attsL (S.evs ats)).length ≤ 140737488355328 := by
            have q := congrArg List.length HR.out
            simp only [List.length_append, Array.length_toList, ByteArray.size_data] at q
            have := HLP.out
            omega
          clear h2 h3

          go_upto_region 10 with fail
          go_region_held3 (fun w' => w'.cell? ⟨bp, 0, none⟩ = some (.func (.func 28) #[.pointer (some ⟨b, 0, none⟩)] #[]) ∧ w'.cell? ⟨bi, 0, none⟩ = some (.int .i64 lv) ∧ w'.cell? ⟨bi, 1, none⟩ = some (.int .i64 kd) ∧ w'.cell? ⟨bi, 2, none⟩ = some (.string nm) ∧ w'.cell? ⟨bi, 3, none⟩ = some (.string tx) ∧ w'.cell? ⟨bi, 4, none⟩ = some (.slice va ats.length vc)) ((refine SB2.out _ ?_; first | exact K7.out | exact K6.out | exact (Lib.OthersKept.refl _ _ _).drew | exact K6.out.alloc _)) (first
            | (go_at_call 33
               refine (head_any ⟨lv, kd, nm, tx, ats⟩ (.slice va ats.length vc) r _ (hid (HATx.out.below (Below.drew (Below.refl _ _)))) ((HPx.out.quiet (Below.drew (Below.refl _ _))).tabw) HV HLH HR).mono ?_
               rintro e w6 ⟨rfl, hb6⟩
               have P6 : Hid (PG b bl bp bw base (.slice (some ⟨g, o, none⟩) l.length cap) l acc W0 w6) := hid ((HPx.out.quiet (Below.drew (Below.refl _ _))).quiet hb6)
               have K6 : Hid (Lib.OthersKept 5 (some b) wc w6) := hid (((Lib.OthersKept.refl _ _ wc).drew).trans (kept_below hb6))
               clear hb6)
            | (go_at_call 28
               refine (put3 b b acc ⟨#[60]⟩ r ⟨#[47, 62]⟩ w6 _ (by simp) P6.out.page P6.out.le HLP.out).mono ?_
               rintro e w7 ⟨rfl, p7, b7, k7⟩
               have P7 := hid (P6.out.kept k7 b7 p7)
               have K7 := hid (K6.out.trans k7)
               clear p7 b7 k7))

          all_goals
            go_wp2
            go_end0
            exact ⟨rfl, by rw [HIT2.out]; exact P7.out, HOx.out.trans K7.out⟩
        · have h3' : ((en : Int) == (k : Int) + 1) = false := beq_eq_false_iff_ne.2 (by omega)
          obtain ⟨op2, HOP⟩ : ∃ op2, Hid (op ++ [nm] = op2) := ⟨_, hid rfl⟩
          have HOL : Hid (op2.length = op.length + 1) := hid (by rw [← HOP.out]; simp)
          have HIT2 : Hid (ar = ([60] ++ (r.data.toList ++ [62])) ++ (S.printE (S.sl m (k + 1) en) op2 op2.length ++ S.endL nm)) := hid (by
            have ne : S.sl m (k + 1) en ≠ [] := by rw [S.sl_cons (by omega) he2]; simp
            rw [HIT.out]; unfold S.itemL; rw [if_neg h2, if_neg ne, HTG.out, HOP.out, HOL.out]; simp)
          have HLP : Hid (acc.length + (1 + r.size + 1) ≤ 140737488355328) := hid (by
            have q := HL.out
            rw [HIT2.out] at q
            simp only [List.length_append, List.length_cons, List.length_nil, Array.length_toList, ByteArray.size_data] at q
            omega)
          have HLH : nm.size + (S.attsL (S.evs ats)).length ≤ 140737488355328 := by
            have q := congrArg List.length HR.out
            simp only [List.length_append, Array.length_toList, ByteArray.size_data] at q
            have := HLP.out
            omega

          go_upto_region 1 with fail
          go_region_held3 (fun w' => w'.cell? ⟨bp, 0, none⟩ = some (.func (.func 28) #[.pointer (some ⟨b, 0, none⟩)] #[]) ∧ w'.cell? ⟨bi, 0, none⟩ = some (.int .i64 lv) ∧ w'.cell? ⟨bi, 1, none⟩ = some (.int .i64 kd) ∧ w'.cell? ⟨bi, 2, none⟩ = some (.string nm) ∧ w'.cell? ⟨bi, 3, none⟩ = some (.string tx) ∧ w'.cell? ⟨bi, 4, none⟩ = some (.slice va ats.length vc)) ((refine SB2.out _ ?_; first | exact K7.out | exact K6.out | exact (Lib.OthersKept.refl _ _ _).drew | exact K6.out.alloc _)) (first
            | (go_at_call 33
               refine (head_any ⟨lv, kd, nm, tx, ats⟩ (.slice va ats.length vc) r _ (hid (HATx.out.below (Below.drew (Below.refl _ _)))) ((HPx.out.quiet (Below.drew (Below.refl _ _))).tabw) HV HLH HR).mono ?_
               rintro e w6 ⟨rfl, hb6⟩
               have P6 : Hid (PG b bl bp bw base (.slice (some ⟨g, o, none⟩) l.length cap) l acc W0 w6) := hid ((HPx.out.quiet (Below.drew (Below.refl _ _))).quiet hb6)
               have K6 : Hid (Lib.OthersKept 5 (some b) wc w6) := hid (((Lib.OthersKept.refl _ _ wc).drew).trans (kept_below hb6))
               clear hb6)
            | (go_at_call 28
               refine (put3 b b acc ⟨#[60]⟩ r ⟨#[62]⟩ w6 _ (by simp) P6.out.page P6.out.le HLP.out).mono ?_
               rintro e w7 ⟨rfl, p7, b7, k7⟩
               have P7 := hid (P6.out.kept k7 b7 p7)
               have K7 := hid (K6.out.trans k7)
               clear p7 b7 k7))

          all_goals
            go_wp2_with fail
            go_loopw [7] (fun v7 X => ∃ (j : Nat) (acc2 : List UInt8), v7 = .int .i64 (j : Int) ∧ k < j ∧ j ≤ en ∧ Hid (j < en → ∃ hj : j < m.length, m[j].level = lv + 1) ∧ Hid (PG b bl bp bw base (.slice (some ⟨g, o, none⟩) l.length cap) l acc2 W0 X) ∧ Hid (acc2 ++ (S.printE (S.sl m j en) op2 op2.length ++ S.endL nm) = acc ++ ar) ∧ Hid (Lib.OthersKept 5 (some b) wc X)) (fun v7 _ => en - (intOf v7).toNat)
            case atStart =>
              refine ⟨k + 1, _, by go_num, by omega, by omega, hid (fun h => ?_), P7, hid (by rw [HIT2.out]; simp), K7⟩
              obtain ⟨q1, q2⟩ := S.first_kid HD.out hk (by rw [HHEN.out]; exact h)
              exact ⟨q1, by rw [q2, HX.out]⟩
            case round =>
              clear P6 K6 P7 K7
              obtain ⟨j, acc2, rfl, hkj, hje, HJ, HP2, HEQ, HK2⟩ := hrel
              by_cases h5 : j < en
              · have h5' : (j : Int) < (en : Int) := by omega
                obtain ⟨hj, hjl⟩ := HJ.out h5
                have HJL := hid hjl
                have KS := hid (S.kid_step HD.out hk hj hkj (by rw [HHEN.out]; exact h5) (by rw [hjl, HX.out]) op2 (by rw [hjl, HOL.out, HO.out]; omega))
                rw [HHEN.out, HX.out] at KS
                clear hjl
                obtain ⟨ej, HEJ⟩ : ∃ ej, Hid (S.eN m j m[j].level = ej) := ⟨_, hid rfl⟩
                rw [HEJ.out] at KS
                have e1 : j < ej := KS.out.2.1
                have e2 : ej ≤ en := KS.out.2.2.1
                obtain ⟨it, HTI⟩ : ∃ it, Hid (S.itemT m j hj op2 = it) := ⟨_, hid rfl⟩
                have HEQ2 : Hid ((acc2 ++ it) ++ (S.printE (S.sl m ej en) op2 op2.length ++ S.endL nm) = acc ++ ar) := hid (by rw [← HEQ.out, KS.out.1, HTI.out]; simp)
                have HLI : Hid (acc2.length + it.length ≤ 140737488355328) := hid (by
                  have q := congrArg List.length HEQ2.out
                  have p := HL.out
                  simp only [List.length_append] at q
                  omega)
                have IHJ := IH.out j hj op2 acc2 wr (hid (by rw [HEJ.out]; have := HE.out; omega)) (hid (by rw [HJL.out, HOL.out, HO.out]; omega)) HP2 (by rw [HTI.out]; exact HLI)
                rw [HTI.out] at IHJ
                have HIJ := hid IHJ
                have c5 : wr.cell? ⟨bw, 0, none⟩ = some (.func (.func 29) #[] #[.pointer (some ⟨bl, 0, none⟩), .pointer (some ⟨bp, 0, none⟩), .pointer (some ⟨bw, 0, none⟩)]) := by rw [Lib.cell_of_heap HP2.out.self]; rfl
                clear IHJ
                go_wp2_with fail
                refine HIJ.out.mono ?_
                rintro e w8 ⟨rfl, p8, k8⟩
                have P8 := hid p8
                have K8 := hid (HK2.out.trans k8)
                clear p8 k8 HIJ
                have c6 : w8.cell? ⟨bl, 0, none⟩ = some (.slice (some ⟨g, o, none⟩) l.length cap) := by rw [Lib.cell_of_heap P8.out.row]; rfl
                go_wp2_with fail
                refine (end_any (hid (items_in P8.out.items)) (j : Int)).mono ?_
                rintro e w9 ⟨rfl, hb9⟩
                rw [HM.out, S.endP_eN hj, HEJ.out]
                have P9 := hid (P8.out.quiet hb9)
                have K9 := hid (K8.out.trans (kept_below hb9))
                clear hb9 P8 K8
                go_wp2
                go_roundw
                case rel =>
                  refine ⟨ej, _, rfl, by omega, e2, hid (fun h => ?_), P9, HEQ2, K9⟩
                  obtain ⟨q1, q2⟩ := KS.out.2.2.2 h
                  exact ⟨q1, q2⟩
                case measure => (simp [intOf]; try omega)
              · have h5' : ¬ (j : Int) < (en : Int) := by omega
                obtain rfl : j = en := by omega
                have HEQ2 : Hid (acc2 ++ ([60, 47] ++ (nm.data.toList ++ [62])) = acc ++ ar) := hid (by
                  have q := HEQ.out
                  rw [S.sl_nil (Nat.le_refl _), S.print_done, List.nil_append] at q
                  exact q)
                have HLI : Hid (acc2.length + (2 + nm.size + 1) ≤ 140737488355328) := hid (by
                  have q := congrArg List.length HEQ2.out
                  have p := HL.out
                  simp only [List.length_append, List.length_cons, List.length_nil, Array.length_toList, ByteArray.size_data] at q
                  omega)
                have c5 := (SB2.out wr HK2.out).1
                have c6 := (SB2.out wr HK2.out).2.2.2.1
                go_wp2_with fail
                refine (put3 b b acc2 ⟨#[60, 47]⟩ nm ⟨#[62]⟩ wr _ (by simp) HP2.out.page HP2.out.le HLI.out).mono ?_
                rintro e w8 ⟨rfl, p8, b8, k8⟩
                have P8 := hid (HP2.out.kept k8 b8 p8)
                have K8 := hid (HK2.out.trans k8)
                clear p8 b8 k8
                go_wp2
                go_end0
                exact ⟨rfl, by rw [← HEQ2.out]; exact P8.out, HOx.out.trans K8.out⟩
end Go.Proofs.YtmnegpdegfianaaDoor
namespace Go.Proofs.YtmnegpdegfianaaDoor
open Go.RowKit Go.Shelf
set_option maxHeartbeats 1000000 in
set_option maxRecDepth 100000 in
theorem print_no (V : Value) (l : List IV) (w : World) (I : Hid (ItemsIn V l w)) (F : Hid (∀ x ∈ l, FitC x.1)) (ht : Tab w) (a b : Int) (HR : Hid (P.checkP (l.map (·.1)) = (a, b))) (hb : b ≠ 0) :
    Calls Tryd.prog 9 #[V] w fun e w' => e = .returned (.tuple #[.string ⟨#[]⟩, .int .i64 b]) ∧ Below w.heap.size w w' := by
  obtain ⟨ao, cap, rfl, hl, hc⟩ := I.out.1
  have hB := below_new w (.cells #[.slice ao l.length cap] 22)
  have CH := hid (check_any (hid (I.out.below hB)) F (ht.below hB) a b HR)
  have HB := hid hB
  clear hB hc
  have hb' : (b != 0) = true := by simpa using hb
  clear hb
  go_enter Tryd.func9, Tryd.ntmps9
  go_wp2_with fail
  refine CH.out.mono ?_
  rintro e w1 ⟨rfl, hb1⟩
  have HB1 := hid (HB.out.trans (hb1.mono HB.out.size))
  clear hb1 CH
  go_wp2
  go_ret2
  exact ⟨rfl, HB1.out⟩
set_option maxHeartbeats 4000000 in
set_option maxRecDepth 100000 in
theorem print_ok (V : Value) (l : List IV) (w : World) (I : Hid (ItemsIn V l w)) (F : Hid (∀ x ∈ l, FitC x.1)) (ht : Tab w) (HR : Hid (P.checkP (l.map (·.1)) = (0, 0))) :
    Calls Tryd.prog 9 #[V] w fun e w' => e = .returned (.tuple #[.string (S.bA (S.printF (S.normalP (l.map (·.1))) [])), .int .i64 0]) ∧ Below w.heap.size w w' := by
  obtain ⟨ao, cap, rfl, hl, hc⟩ := I.out.1
  have hB := below_new w (.cells #[.slice ao l.length cap] 22)
  have hN := heap_alloc_new w (.cells #[.slice ao l.length cap] 22)
  have CH := hid (check_any (hid (I.out.below hB)) F (ht.below hB) 0 0 HR)
  obtain ⟨dd, hpr, hf, hbd⟩ := S.print_wants HR.out
  obtain ⟨_, b2, b3⟩ := S.doc_bound HR.out
  have hll : l.length ≤ 1000 := by simpa using b2
  have htx : (S.texts (l.map (·.1))).length ≤ 1500000 := by
    have t1 := S.texts_bound (B := 1500) (fun x hx => (b3 x hx).1)
    have t2 : (l.map (·.1)).length * 1500 ≤ 1000 * 1500 := Nat.mul_le_mul_right _ b2
    omega
  have hat : ∀ x ∈ l, x.1.attrs.length * 32 ≤ 140737488355328 := fun x hx => by
    have := (b3 x.1 (List.mem_map.2 ⟨x, hx, rfl⟩)).2.1
    omega
  have HPR := hid hpr
  have HDD := hid dd
  have HFF := hid hf
  have HBD := hid hbd
  have HB := hid hB
  have HNW := hid hN
  have HTAB := hid ht
  have HAT := hid hat
  have HTX := hid htx
  clear hB hN hc dd hpr hf hbd ht hat htx b2 b3 F
  go_enter Tryd.func9, Tryd.ntmps9
  go_wp2_with fail
  refine CH.out.mono ?_
  rintro e w1 ⟨rfl, hb1⟩
  have HB1 := hid (HB.out.trans (hb1.mono HB.out.size))
  have hN1 : w1.heap[w.heap.size]? = some (.cells #[.slice ao l.length cap] 22 (0, 0)) := (hb1.block w.heap.size (lt_of_block HNW.out)).trans HNW.out
  have c0 : w1.cell? ⟨w.heap.size, 0, none⟩ = some (.slice ao l.length cap) := by rw [Lib.cell_of_heap hN1]; rfl
  have HN1 := hid hN1
  have NO := hid (normal_any (.slice ao l.length cap) l w1 (hid (I.out.below HB1.out)) (by omega) (by have := HTX.out; omega) HAT.out)
  clear hb1 CH hN1 HNW HB
  go_wp2_with fail
  refine NO.out.mono ?_
  rintro e w2 ⟨V2, l2, rfl, hm2, hr2, hb2⟩
  obtain ⟨v2a, v2n, v2c, rfl⟩ : ∃ a n c, V2 = .slice a n c := by
    rcases hr2.1.2 with ⟨rfl, _⟩ | ⟨g, cap, cur, rfl, _⟩
    · exact ⟨_, _, _, rfl⟩
    · exact ⟨_, _, _, rfl⟩
  have HN2 : Hid (w2.heap[w.heap.size]? = some (.cells #[.slice ao l.length cap] 22 (0, 0))) := hid ((hb2.block w.heap.size (lt_of_block HN1.out)).trans HN1.out)
  have c2 : w2.cell? ⟨w.heap.size, 0, none⟩ = some (.slice ao l.length cap) := by rw [Lib.cell_of_heap HN2.out]; rfl
  have f2 : w2.frozen? ⟨w.heap.size, 0, none⟩ = false := Lib.frozen_of_heap HN2.out 0
  have HM2 := hid hm2
  have HR2 := hid hr2
  have HB2 := hid (HB1.out.trans (hb2.mono HB1.out.size))
  have hlt := lt_of_block HN1.out
  have hsf : ∀ (w : World) (a : Addr) (f : Fn) (r c : Array Value), (store a (.func f r c)).run Tryd.prog w = stored Tryd.prog w a (.func f r c) .plain := fun w a f r c => run_store _ w a _ _ rfl
  clear hm2 hr2 hb2 NO c0
  go_wp2_with fail
  obtain ⟨W0, HW0⟩ : ∃ W0, Hid (w2.setCell ⟨w.heap.size, 0, none⟩ (.slice v2a v2n v2c) = W0) := ⟨_, hid rfl⟩
  rw [HW0.out]
  have hbl : W0.heap[w.heap.size]? = some (.cells #[.slice v2a v2n v2c] 22 (0, 0)) := by rw [← HW0.out]; exact heap_setCell_same _ _ 0 _ _ _ HN2.out
  have hs0 : W0.heap.size = w2.heap.size := by rw [← HW0.out]; simp
  have hb0 : Below w.heap.size w W0 := by rw [← HW0.out]; exact HB2.out.setCell (p := ⟨w.heap.size, 0, none⟩) (Nat.le_refl _) _
  have hr0 : ItmRow w1.heap.size (.slice v2a v2n v2c) l2 W0 := by rw [← HW0.out]; exact ⟨ownsRow_setCell_below HR2.out.1 hlt _, fun x hx => ownsRow_setCell_below (HR2.out.2 x hx) hlt _⟩
  rw [← hs0]
  have p1 := page_new W0
  have x1 := below_new W0 (.cells #[.pointer none, .slice none 0 0] 60)
  have s1 : (W0.alloc (.cells #[.pointer none, .slice none 0 0] 60)).heap.size = W0.heap.size + 1 := by simp
  generalize W0.alloc (.cells #[.pointer none, .slice none 0 0] 60) = W1 at *
  have o2 := heap_alloc_new W1 (.cells #[.func (.func 28) #[.pointer (some ⟨W0.heap.size, 0, none⟩)] #[]] 61)
  have x2 := below_new W1 (.cells #[.func (.func 28) #[.pointer (some ⟨W0.heap.size, 0, none⟩)] #[]] 61)
  have s2 : (W1.alloc (.cells #[.func (.func 28) #[.pointer (some ⟨W0.heap.size, 0, none⟩)] #[]] 61)).heap.size = W1.heap.size + 1 := by simp
  generalize W1.alloc (.cells #[.func (.func 28) #[.pointer (some ⟨W0.heap.size, 0, none⟩)] #[]] 61) = W2 at *
  have o3 := heap_alloc_new W2 (.cells #[.func (.func 29) #[] #[.pointer (some ⟨w.heap.size, 0, none⟩), .pointer (some ⟨W0.heap.size + 1, 0, none⟩), .pointer (some ⟨W0.heap.size + 1 + 1, 0, none⟩)]] 62)
  have x3 := below_new W2 (.cells #[.func (.func 29) #[] #[.pointer (some ⟨w.heap.size, 0, none⟩), .pointer (some ⟨W0.heap.size + 1, 0, none⟩), .pointer (some ⟨W0.heap.size + 1 + 1, 0, none⟩)]] 62)
  generalize W2.alloc (.cells #[.func (.func 29) #[] #[.pointer (some ⟨w.heap.size, 0, none⟩), .pointer (some ⟨W0.heap.size + 1, 0, none⟩), .pointer (some ⟨W0.heap.size + 1 + 1, 0, none⟩)]] 62) = W3 at *
  have x23 : Below W1.heap.size W1 W3 := x2.trans (x3.mono x2.size)
  have x13 : Below W0.heap.size W0 W3 := x1.trans (x23.mono x1.size)
  have hlt0 := lt_of_block hbl
  have hPG : PG W0.heap.size w.heap.size (W0.heap.size + 1) (W0.heap.size + 1 + 1) w1.heap.size (.slice v2a v2n v2c) l2 [] W0 W3 :=
    ⟨HTAB.out.below hb0, rfl, x13, page_below p1 x23, (x13.block _ hlt0).trans hbl, by
      have := (x3.block W1.heap.size (by omega)).trans o2
      rw [s1] at this
      exact this, by
      rw [s2, s1] at o3
      exact o3, hr0.below x13⟩
  have HB3 : Hid (Below w.heap.size w W3) := hid (hb0.trans (x13.mono hb0.size))
  obtain ⟨h0, hpr, hl0⟩ := HPR.out
  have WA := write_any (S.normalP (l.map (·.1))) (hid HM2.out) HDD HFF (S.normalP (l.map (·.1))).length 0 h0 [] [] W3 (hid (by have := (S.eN_facts h0).2.1; omega)) (hid (by rw [hl0]; rfl)) (hid hPG) (hid (by rw [← hpr]; have := HBD.out; simpa using this))
  rw [← hpr, List.nil_append, show ((0 : Nat) : Int) = 0 from rfl] at WA
  have HWA := hid WA
  clear WA p1 o2 o3 x1 x2 x3 x23 x13 hPG hr0 hbl hpr hl0
  refine Calls.mono HWA.out ?_
  rintro e w8 ⟨rfl, p8, _⟩
  have HP8 := hid p8
  have HB0 := hid hb0
  clear p8 HWA hs0 s1 s2 hlt0 hb0 c2 f2 hsf
  go_wp2_with fail
  refine (pageString_any _ _ _ _ HP8.out.page HP8.out.le).mono ?_
  rintro e w9 ⟨rfl, _, b9, _⟩
  have HB9 : Hid (Below w.heap.size w w9) := hid ((HB0.out.trans (HP8.out.below.mono HB0.out.size)).trans (b9.mono HB0.out.size))
  clear b9
  go_wp2
  go_ret2
  exact ⟨rfl, HB9.out⟩
end Go.Proofs.YtmnegpdegfianaaDoor
namespace Go.Proofs.YtmnegpdegfianaaDoor
open Go.RowKit Go.Shelf
def aliveL : List IV := [(⟨0, 1, ⟨#[97]⟩, ⟨#[]⟩, []⟩, .slice none 0 0), (⟨1, 2, ⟨#[]⟩, ⟨#[60]⟩, []⟩, .slice none 0 0), (⟨1, 1, ⟨#[98]⟩, ⟨#[]⟩, []⟩, .slice none 0 0)]
theorem alive_check : P.checkP (aliveL.map (·.1)) = (0, 0) := by kernel_rfl
theorem alive_print : S.bA (S.printF (S.normalP (aliveL.map (·.1))) []) = ⟨#[60, 97, 62, 38, 108, 116, 59, 60, 98, 47, 62, 60, 47, 97, 62]⟩ := by kernel_rfl
theorem alive_fit : ∀ x ∈ aliveL, FitC x.1 := by
  intro x hx
  simp only [aliveL, List.mem_cons, List.not_mem_nil, or_false] at hx
  rcases hx with rfl | rfl | rfl <;> exact ⟨by decide, by decide, by decide, by decide, fun a ha => absurd ha (List.not_mem_nil)⟩
set_option maxHeartbeats 1000000 in
set_option maxRecDepth 100000 in
theorem alive5_any (w : World) (ht : Tab w) : Calls Tryd.prog 11 #[] w fun e w' => e = .returned (.bool true) ∧ Below w.heap.size w w' := by
  have hB := below_new w (.cells #[.int .i64 0, .int .i64 1, .string ⟨#[97]⟩, .string ⟨#[]⟩, .slice none 0 0, .int .i64 1, .int .i64 2, .string ⟨#[]⟩, .string ⟨#[60]⟩, .slice none 0 0, .int .i64 1, .int .i64 1, .string ⟨#[98]⟩, .string ⟨#[]⟩, .slice none 0 0] 32)
  have hN := heap_alloc_new w (.cells #[.int .i64 0, .int .i64 1, .string ⟨#[97]⟩, .string ⟨#[]⟩, .slice none 0 0, .int .i64 1, .int .i64 2, .string ⟨#[]⟩, .string ⟨#[60]⟩, .slice none 0 0, .int .i64 1, .int .i64 1, .string ⟨#[98]⟩, .string ⟨#[]⟩, .slice none 0 0] 32)
  have I : ItemsIn (.slice (some ⟨w.heap.size, 0, none⟩) 3 3) aliveL (w.alloc (.cells #[.int .i64 0, .int .i64 1, .string ⟨#[97]⟩, .string ⟨#[]⟩, .slice none 0 0, .int .i64 1, .int .i64 2, .string ⟨#[]⟩, .string ⟨#[60]⟩, .slice none 0 0, .int .i64 1, .int .i64 1, .string ⟨#[98]⟩, .string ⟨#[]⟩, .slice none 0 0] 32)) := by
    refine ⟨⟨some ⟨w.heap.size, 0, none⟩, 3, rfl, by decide, fun _ => ⟨w.heap.size, 0, rfl, by simp, fun j hj => ?_⟩⟩, fun x hx => ?_⟩
    · have hj3 : j < 3 := hj
      simp only [Lib.cell_of_heap hN]
      match j, hj3 with
      | 0, _ => exact ⟨rfl, rfl, rfl, rfl, rfl⟩
      | 1, _ => exact ⟨rfl, rfl, rfl, rfl, rfl⟩
      | 2, _ => exact ⟨rfl, rfl, rfl, rfl, rfl⟩
    · simp only [aliveL, List.mem_cons, List.not_mem_nil, or_false] at hx
      rcases hx with rfl | rfl | rfl <;> exact ⟨none, 0, rfl, by simp, fun h => absurd rfl h⟩
  have PR := hid (print_ok _ aliveL _ (hid I) (hid alive_fit) (ht.below hB) (hid alive_check))
  rw [alive_print] at PR
  have HB := hid hB
  clear I hN hB ht
  go_enter Tryd.func11, Tryd.ntmps11
  go_wp2_with fail
  refine PR.out.mono ?_
  rintro e w1 ⟨rfl, hb⟩
  have HB1 := hid (HB.out.trans (hb.mono HB.out.size))
  clear hb
  go_wp2
  go_ret
  exact ⟨rfl, HB1.out⟩
end Go.Proofs.YtmnegpdegfianaaDoor
