/- The walk of the document's own Print, at a document that is normal: what is open is closed ahead of an item that is not in it. -/
import Derived.Test.YtmnegpdegfianaaDoorSRTag
import Derived.Test.YtmnegpdegfianaaDoorSRNormal
import Derived.Test.YtmnegpdegfianaaDoorPRefCheck2
namespace Go.Proofs.YtmnegpdegfianaaDoor
open Go.RowKit Go.Shelf
theorem infoStr : (Tryd.prog.info? 9).map (fun i => (i.zero, i.size, i.bytes)) = some (some (.string ⟨#[]⟩), 1, 16) := by kernel_rfl
def encS (op : List ByteArray) : List Value := op.map .string
def StrRow (B : Nat) (V : Value) (op : List ByteArray) (w : World) : Prop := w.ownsRow B 9 1 V op.length (encS op)
theorem str_cells {B : Nat} {V : Value} {op : List ByteArray} {w : World} (h : StrRow B V op w) (hne : op ≠ []) : ∃ g cap, V = .slice (some ⟨g, 0, none⟩) op.length cap ∧ B ≤ g ∧ g < w.heap.size ∧ op.length ≤ cap ∧ ∀ j (h : j < op.length), w.cell? ⟨g, j, none⟩ = some (.string op[j]) := by
  have hpos : 0 < op.length := List.length_pos_iff.2 hne
  rcases h.2 with ⟨_, hz⟩ | ⟨g, cap, cur, rfl, h1, h2, h3, h4, h5, h6⟩
  · omega
  · refine ⟨g, cap, rfl, h1, lt_of_block h2, h3, fun j hj => ?_⟩
    rw [Lib.cell_of_heap h2, ← Array.getElem?_toList]
    have e : (encS op)[j]? = some (.string op[j]) := by unfold encS; rw [List.getElem?_map, List.getElem?_eq_getElem hj]; rfl
    rw [← h6, List.getElem?_take] at e
    split at e
    · exact e
    · cases e
theorem str_pop {B g cap : Nat} {op : List ByteArray} {x : ByteArray} {w : World} (h : StrRow B (.slice (some ⟨g, 0, none⟩) (op.length + 1) cap) (op ++ [x]) w) : StrRow B (.slice (some ⟨g, 0, none⟩) op.length cap) op w := by
  rcases h.2 with ⟨_, hz⟩ | ⟨g', cap', cur, e, h1, h2, h3, h4, h5, h6⟩
  · simp at hz
  · simp only [Value.slice.injEq, Option.some.injEq, Addr.mk.injEq, and_true] at e
    obtain ⟨rfl, _, rfl⟩ := e
    rw [List.length_append] at h3 h6
    simp only [List.length_singleton] at h3 h6
    refine ⟨by simp [encS], Or.inr ⟨g, cap, cur, rfl, h1, h2, by omega, h4, h5, ?_⟩⟩
    have := congrArg (fun l => l.take (op.length * 1)) h6
    simp only [List.take_take] at this
    rw [show min (op.length * 1) ((op.length + 1) * 1) = op.length * 1 by omega] at this
    rw [this]
    unfold encS
    rw [List.map_append, List.take_append_of_le_length (by simp)]
    exact List.take_of_length_le (by simp)
theorem run_build0 (w : World) : (Instr.buildSlice 68 0 #[]).run Tryd.prog w = .ok (.slice (some ⟨w.heap.size, 0, none⟩) 0 0) (w.alloc (.cells #[] 9)) := by kernel_rfl
theorem cap_one (e : TypeId) (t : Nat) : 1 ≤ (Question.appendCap 1 0 e).cut t ∧ (Question.appendCap 1 0 e).cut t ≤ maxLen := by
  show 1 ≤ 1 + t % (2 ^ 63 - 1) ∧ 1 + t % (2 ^ 63 - 1) ≤ maxLen
  have := Nat.mod_lt t (y := 2 ^ 63 - 1) (by decide)
  unfold maxLen
  omega
theorem str_new {B n c : Nat} {nm : ByteArray} {W : World} (hn : W.heap.size = n) (hB : B ≤ n) (h1 : 1 ≤ c) (h2 : c ≤ maxLen) : StrRow B (.slice (some ⟨n, 0, none⟩) 1 c) [nm] (W.alloc (Obj.cells (#[Value.string nm] ++ Builtin.zeroCells #[Value.string ⟨#[]⟩] (c - 1)) 9)).drew := by
  subst hn
  exact ⟨by simp [encS], Or.inr ⟨W.heap.size, c, _, rfl, hB, heap_alloc_new W _, h1, h2, by simp [size_zeroCells]; omega, by simp [encS]⟩⟩
theorem below_two {n : Nat} {w : World} (hn : n ≤ w.heap.size) (a b c : Obj) : Below n w (((w.alloc a).alloc b).alloc c).drew :=
  ((((Below.refl n w).alloc hn _).alloc (by simp; omega) _).alloc (by simp; omega) _).drew
/-- What the document's Print works with. -/
structure PW (m : List P.Itm) (T : List UInt8) (W0 : World) (k : Nat) (op : List ByteArray) (s : ByteArray) (V7 : Value) (X : World) : Prop where
  text : s.data.toList ++ S.printF (m.drop k) op = T
  row : StrRow W0.heap.size V7 op X
  below : Below W0.heap.size W0 X
  len : op.length ≤ k
theorem slice_form {B : Nat} {V : Value} {op : List ByteArray} {w : World} (h : StrRow B V op w) : ∃ a c, V = .slice a op.length c := by
  rcases h.2 with ⟨rfl, h0⟩ | ⟨g, cap, cur, rfl, _⟩
  · exact ⟨none, 0, by rw [h0]⟩
  · exact ⟨_, _, rfl⟩
namespace S
open P L G E
theorem close_pop {op : List ByteArray} {nm : ByteArray} {n : Nat} (h : n ≤ op.length) : closeL (op ++ [nm]) n = [60, 47] ++ (nm.data.toList ++ [62]) ++ closeL op n := by
  rw [close_snoc h]
  rfl
end S
set_option maxRecDepth 100000 in
set_option maxHeartbeats 16000000 in
theorem rprint_ok (V : Value) (l : List IV) (w : World) (I : Hid (ItemsIn V l w)) (F : Hid (∀ x ∈ l, FitU x.1)) (HC : Hid (P.checkP (l.map (·.1)) = (0, 0))) (hts : (S.texts (l.map (·.1))).length ≤ 1048576) :
    Calls Tryd.prog 10 #[V] w fun e w' => e = .returned (.tuple #[.string (S.bA (S.printF (S.normalP (l.map (·.1))) [])), .int .i64 0]) ∧ Below w.heap.size w w' := by
  obtain ⟨ao, cap, rfl, hl, hc⟩ := I.out.1
  obtain ⟨dd, _, hff, hbd⟩ := S.print_wants HC.out
  obtain ⟨_, b2, b3⟩ := S.doc_bound HC.out
  have htx : (S.texts (l.map (·.1))).length ≤ 1500000 := by omega
  have hll : l.length ≤ 1000 := by simpa using b2
  have CH := hid (rcheck_any I F 0 0 HC)
  obtain ⟨T, HTT⟩ : ∃ T, Hid (S.printF (S.normalP (l.map (·.1))) [] = T) := ⟨_, hid rfl⟩
  rw [HTT.out] at hbd ⊢
  have HBD := hid hbd
  have HDD := hid dd
  have HTX := hid htx
  have HFF : Hid (∀ x ∈ S.normalP (l.map (·.1)), x.text.size ≤ 1048576 ∧ x.level < 40 ∧ ∀ a ∈ x.attrs, a.2.size ≤ 1048576) := hid (fun x hx => by
    obtain ⟨t1, y, hy, t2⟩ := S.normal_texts x hx
    refine ⟨by omega, ((S.doc_normal HC.out).2.1 x hx).2, fun a ha => ?_⟩
    rw [t2] at ha
    have := (b3 y hy).2.2 a ha
    omega)
  have HLN : Hid ((S.normalP (l.map (·.1))).length ≤ 1000) := hid (Nat.le_trans (S.normal_len _) b2)
  clear hc dd hff hbd b2 b3 htx
  obtain ⟨i0, I0, I1, I2, I3⟩ := info_parts infoStr
  go_enter Tryd.func10, Tryd.ntmps10
  go_wp2_with fail
  refine CH.out.mono ?_
  rintro e w1 ⟨rfl, hb1⟩
  have HB1 := hid hb1
  clear hb1 CH
  go_wp2_with fail
  refine (rnormal_any _ l w1 (hid (I.out.below HB1.out)) (by omega) (by have := HTX.out; omega)).mono ?_
  rintro e W0 ⟨a2, n2, c2, rfl, l2, hm2, i2, hb2⟩
  obtain ⟨m, HM⟩ : ∃ m, Hid (S.normalP (l.map (·.1)) = m) := ⟨_, hid rfl⟩
  rw [HM.out] at HFF HLN HDD HTT
  have HM2 : Hid (l2.map (·.1) = m) := hid (by rw [hm2, HM.out])
  have HW0 := hid (HB1.out.trans (hb2.mono HB1.out.size))
  obtain ⟨a2', c2', e2, hl2, hcl2⟩ := i2.1
  simp only [Value.slice.injEq] at e2
  obtain ⟨rfl, rfl, rfl⟩ := e2
  have HC2 := hid hcl2
  have HA2 := hid i2.2
  have hlm : l2.length = m.length := by rw [← HM2.out]; simp
  have HLM := hid hlm
  have hl2n : l2.length ≤ 1000 := by rw [hlm]; exact HLN.out
  clear hm2 i2 hb2 hcl2 hlm
  go_wp2_with fail
  go_loopw [6, 7, 8, 9, 10, 11] (fun v6 v7 v8 _ _ _ X => ∃ (k : Nat) (op : List ByteArray) (s : ByteArray), v6 = .string s ∧ v8 = .int .i64 (k : Int) ∧ k ≤ l2.length ∧ Hid (PW m T W0 k op s v7 X)) (fun _ _ v8 _ _ _ _ => l2.length - (intOf v8).toNat)
  case atStart => exact ⟨0, [], _, rfl, rfl, by omega, hid ⟨by simpa using HTT.out, ⟨by simp [encS], Or.inl ⟨rfl, rfl⟩⟩, Below.refl _ _, by simp⟩⟩
  case round =>
    obtain ⟨k, op, s, rfl, rfl, hk, HP⟩ := hrel
    obtain ⟨pa, pc, rfl⟩ := slice_form HP.out.row
    by_cases h1 : k < l2.length
    · have h1' : (k : Int) < (l2.length : Int) := by omega
      have hkm : k < m.length := by rw [← HLM.out]; exact h1
      obtain ⟨g, o, rfl, hg, hcl⟩ := HC2.out (by rintro rfl; simp at h1)
      have HG := hid hg
      have HCL := hid hcl
      have HXM : Hid (l2[k].1 = m[k]) := hid (by have := HM2.out; subst this; simp)
      have hpos := HDD.out.pos k hkm
      have HDR : Hid (m.drop k = m[k] :: m.drop (k + 1)) := hid (List.drop_eq_getElem_cons hkm)
      obtain ⟨k0, k1, k2, k3, k4⟩ := hcl k h1
      rw [HXM.out] at k0 k1 k2 k3
      have HCK : Hid (∀ X, Below W0.heap.size W0 X → (X.cell? ⟨g, o + k * 5, none⟩ = some (.int .i64 m[k].level) ∧ X.cell? ⟨g, o + k * 5 + 1, none⟩ = some (.int .i64 m[k].kind) ∧ X.cell? ⟨g, o + k * 5 + 2, none⟩ = some (.string m[k].name) ∧ X.cell? ⟨g, o + k * 5 + 3, none⟩ = some (.string m[k].text) ∧ X.cell? ⟨g, o + k * 5 + 4, none⟩ = some l2[k].2)) := hid (fun X hb => ⟨(hb.cell (p := ⟨g, o + k * 5, none⟩) hg).trans k0, (hb.cell (p := ⟨g, o + k * 5 + 1, none⟩) hg).trans k1, (hb.cell (p := ⟨g, o + k * 5 + 2, none⟩) hg).trans k2, (hb.cell (p := ⟨g, o + k * 5 + 3, none⟩) hg).trans k3, (hb.cell (p := ⟨g, o + k * 5 + 4, none⟩) hg).trans k4⟩)
      have HAT : Hid (AttrsIn l2[k].2 m[k].attrs W0) := hid (by rw [← HXM.out]; exact HA2.out _ (List.getElem_mem h1))
      have HFK := hid (HFF.out _ (List.getElem_mem hkm))
      obtain ⟨lv, HLV⟩ : ∃ lv : Nat, Hid (m[k].level = (lv : Int)) := ⟨m[k].level.toNat, hid (by omega)⟩
      rw [HLV.out] at HCK
      clear k0 k1 k2 k3 k4 hcl hg hpos
      have hlvn : lv < 40 := by have := HFK.out.2.1; rw [HLV.out] at this; omega
      obtain ⟨R, HRR⟩ : ∃ R, Hid (S.printF (m[k] :: m.drop (k + 1)) op = S.closeL op lv ++ R ∧ R = (if m[k].kind = 2 then S.txtL m[k].text ++ S.printF (m.drop (k + 1)) (op.take lv) else if S.leafB m[k] (m.drop (k + 1)) = true then S.tagL m[k].name (S.evs m[k].attrs) ++ ([47, 62] ++ S.printF (m.drop (k + 1)) (op.take lv)) else S.tagL m[k].name (S.evs m[k].attrs) ++ ([62] ++ S.printF (m.drop (k + 1)) (op.take lv ++ [m[k].name])))) := ⟨_, hid ⟨by rw [S.printF, HLV.out]; rfl, rfl⟩⟩
      have HST : Hid (s.data.toList ++ (S.closeL op lv ++ R) = T) := hid (by
        have := HP.out.text
        rw [HDR.out, HRR.out.1] at this
        exact this)
      go_wp2_with fail
      go_loopw [6, 7] (fun v6 v7 X => ∃ (op' : List ByteArray) (s' : ByteArray), v6 = .string s' ∧ op'.length ≤ op.length ∧ Hid (StrRow W0.heap.size v7 op' X ∧ Below W0.heap.size W0 X ∧ s'.data.toList ++ S.closeL op' lv = s.data.toList ++ S.closeL op lv ∧ op'.take lv = op.take lv)) (fun _ v7 _ => match v7 with | .slice _ n _ => n | _ => 0)
      case atStart => exact ⟨op, s, rfl, Nat.le_refl _, hid ⟨HP.out.row, HP.out.below, rfl, rfl⟩⟩
      case round =>
        have hopl := HP.out.len
        have HP0 := HP
        clear HP
        obtain ⟨op', s', rfl, hol, HI⟩ := hrel
        obtain ⟨qa, qc, rfl⟩ := slice_form HI.out.1
        obtain ⟨c0, c1, c2, c3, c4⟩ := HCK.out wr HI.out.2.1
        have HSL : Hid (s'.data.toList ++ (S.closeL op' lv ++ R) = T) := hid (by
          have := HST.out
          rw [← List.append_assoc, ← HI.out.2.2.1, List.append_assoc] at this
          exact this)
        by_cases h5 : lv < op'.length
        · have h5' : (lv : Int) < (op'.length : Int) := by omega
          obtain ⟨oq, nm, rfl⟩ : ∃ oq nm, op' = oq ++ [nm] := ⟨op'.dropLast, op'.getLast (by rintro rfl; simp at h5), (List.dropLast_concat_getLast _).symm⟩
          obtain ⟨gr, cr, er, hBr, hgr, hlr, hcr⟩ := str_cells HI.out.1 (by simp)
          simp only [Value.slice.injEq] at er
          obtain ⟨rfl, -, rfl⟩ := er
          have hLL : (oq ++ [nm]).length = oq.length + 1 := by simp
          have d0 := hcr oq.length (by simp)
          rw [List.getElem_concat_length rfl] at d0
          rw [hLL] at h5' hol h5 hlr
          have HPOP : Hid (StrRow W0.heap.size (.slice (some ⟨gr, 0, none⟩) oq.length qc) oq wr) := hid (str_pop (by have := HI.out.1; rwa [hLL] at this))
          have HCP : Hid (S.closeL (oq ++ [nm]) lv = [60, 47] ++ (nm.data.toList ++ [62]) ++ S.closeL oq lv) := hid (S.close_pop (by omega))
          have hsm : s'.size + 2 + nm.size + 1 ≤ 9223372036854775807 := by
            have h := congrArg List.length HSL.out
            rw [HCP.out] at h
            have hb := HBD.out
            simp only [List.length_append, Array.length_toList, ByteArray.size_data, List.length_cons, List.length_nil] at h
            omega
          have hsm2 : s'.size + 2 + nm.size + 1 ≤ maxLen := by unfold maxLen; omega
          have hqn : oq.length ≤ 9223372036854775806 := by omega
          have hgt : (oq.length : Int) + 1 > (lv : Int) := by omega
          have hlt3 : (oq.length : Int) < (oq.length : Int) + 1 := by omega
          have hle3 : (oq.length : Int) ≤ (oq.length : Int) + 1 := by omega
          have HN2 : Hid ((s' ++ ⟨#[60, 47]⟩ ++ nm ++ ⟨#[62]⟩).data.toList ++ S.closeL oq lv = s.data.toList ++ S.closeL op lv ∧ oq.take lv = op.take lv) := hid ⟨by
            rw [← HI.out.2.2.1, HCP.out]
            simp only [L.app_list, List.append_assoc], by
            rw [← HI.out.2.2.2, List.take_append_of_le_length (by omega)]⟩
          have HBI := hid HI.out.2.1
          rw [hLL]
          clear hcr HCP HSL HI hLL
          go_wp2_with fail
          exact ⟨⟨oq, _, rfl, by omega, hid ⟨HPOP.out, HBI.out, HN2.out.1, HN2.out.2⟩⟩, by show oq.length < oq.length + 1; omega⟩
        · have h5' : ¬ (lv : Int) < (op'.length : Int) := by omega
          have HOQ : Hid (op.take lv = op') := hid (by rw [← HI.out.2.2.2, List.take_of_length_le (by omega)])
          have HSR : Hid (s'.data.toList ++ R = T) := hid (by
            have := HSL.out
            rw [S.close_all (by omega), List.nil_append] at this
            exact this)
          have HRW := hid HI.out.1
          have HBI := hid HI.out.2.1
          have HR3 := hid HRR.out.2
          have hlk : op'.length ≤ k := by omega
          rw [HOQ.out] at HR3
          clear HRR HOQ HI
          have hwr : W0.heap.size ≤ wr.heap.size := HBI.out.size
          have hgw : g < wr.heap.size := Nat.lt_of_lt_of_le HG.out hwr
          clear HSL HST
          by_cases hk2 : m[k].kind = 2
          · rw [hk2] at c1
            obtain ⟨er, HE⟩ : ∃ er : ByteArray, Hid ((E.escL false m[k].text.data.toList).getD [] = er.data.toList) := ⟨S.bA _, hid rfl⟩
            obtain ⟨bb, HBB⟩ : ∃ bb, Hid ((E.escL false m[k].text.data.toList).isSome = bb) := ⟨_, hid rfl⟩
            have RT := hid (rtext_any m[k].text er bb wr HFK.out.1 (hid ⟨HE.out, HBB.out⟩))
            have HS2 : Hid ((s' ++ er).data.toList ++ S.printF (m.drop (k + 1)) op' = T) := hid (by
              rw [← HSR.out, HR3.out, if_pos hk2, L.app_list, List.append_assoc, ← HE.out]; rfl)
            have hsm : s'.size + er.size ≤ 9223372036854775807 := by
              have h := congrArg List.length HS2.out
              have hb := HBD.out
              simp only [List.length_append, L.app_list, Array.length_toList, ByteArray.size_data] at h
              omega
            have hsm2 : s'.size + er.size ≤ maxLen := by unfold maxLen; omega
            clear HSR HR3 HE HBB HFK
            generalize m[k].text = tx at *
            go_wp2_with fail
            refine RT.out.mono ?_
            rintro e w2 ⟨rfl, hb2⟩
            have HR2 := hid (own_below HRW.out hb2)
            have HB2 := hid (HBI.out.trans (hb2.mono hwr))
            clear hb2 RT
            go_wp2_with fail
            exact ⟨⟨k + 1, _, _, rfl, by go_num, by omega, hid ⟨HS2.out, HR2.out, HB2.out, by omega⟩⟩, by simp [intOf]; omega⟩
          · have hk2' : (m[k].kind == 2) = false := beq_eq_false_iff_ne.2 hk2
            obtain ⟨tg, HTG⟩ : ∃ tg : ByteArray, Hid (S.tagL m[k].name (S.evs m[k].attrs) = tg.data.toList) := ⟨S.bA _, hid rfl⟩
            have HR4 := HR3.out
            rw [if_neg hk2, HTG.out] at HR4
            have HR5 := hid HR4
            have htg : tg.size ≤ 140737488355328 := by
              have h := congrArg List.length HSR.out
              have hb := HBD.out
              rw [HR4] at h
              split at h
              · simp only [List.length_append, Array.length_toList, ByteArray.size_data] at h; omega
              · simp only [List.length_append, Array.length_toList, ByteArray.size_data] at h; omega
            have HIT : Hid (itmV m[k] l2[k].2 = .agg #[.int .i64 (lv : Int), .int .i64 m[k].kind, .string m[k].name, .string m[k].text, l2[k].2]) := hid (by unfold itmV; rw [HLV.out])
            have TG : ∀ X, Below W0.heap.size W0 X → Hid (Calls Tryd.prog 36 #[itmV m[k] l2[k].2] X fun e w' => e = .returned (.string tg) ∧ Below X.heap.size X w') := fun X hb => hid (rtag_any m[k] l2[k].2 tg X (hid (HAT.out.below hb)) (hid HFK.out.2.2) htg HTG)
            rw [HIT.out] at TG
            have TGH := hid TG
            clear TG HR3 HR4 HIT HTG
            by_cases hlast : k + 1 = l2.length
            · have hl1 : ((k : Int) + 1 == (l2.length : Int)) = true := by simp; omega
              have HLF : Hid (S.leafB m[k] (m.drop (k + 1)) = true) := hid (by rw [List.drop_eq_nil_of_le (by rw [← HLM.out]; omega)]; rfl)
              have HS2 : Hid ((s' ++ tg ++ ⟨#[47, 62]⟩).data.toList ++ S.printF (m.drop (k + 1)) op' = T) := hid (by
                rw [← HSR.out, HR5.out, if_pos HLF.out]; simp only [L.app_list, List.append_assoc])
              have hsm : s'.size + tg.size + 2 ≤ 9223372036854775807 := by
                have h := congrArg List.length HS2.out
                have hb := HBD.out
                simp only [List.length_append, L.app_list, Array.length_toList, ByteArray.size_data, List.length_cons, List.length_nil] at h
                omega
              have hsm2 : s'.size + tg.size + 2 ≤ maxLen := by unfold maxLen; omega
              clear HSR HR5 HLF
              go_wp2_with fail
              go_quiet (fail)
              have HBD2 := hid (below_drewN HBI.out nq)
              go_wp2_with fail
              refine (TGH.out _ HBD2.out).out.mono ?_
              rintro e w2 ⟨rfl, hb2⟩
              have HR2 : Hid (StrRow W0.heap.size (.slice qa op'.length qc) op' w2) := hid (own_below (w := wr.drewN nq) HRW.out hb2)
              have HB2 := hid (HBD2.out.trans (hb2.mono hwr))
              clear hb2
              go_wp2_with fail
              exact ⟨⟨k + 1, _, _, rfl, by go_num, by omega, hid ⟨HS2.out, HR2.out, HB2.out, by omega⟩⟩, by simp [intOf]; omega⟩
            · have hl1 : ((k : Int) + 1 == (l2.length : Int)) = false := by simp; omega
              have hk1 : k + 1 < l2.length := by omega
              have hk1m : k + 1 < m.length := by rw [← HLM.out]; exact hk1
              have HDR1 : Hid (m.drop (k + 1) = m[k + 1] :: m.drop (k + 1 + 1)) := hid (List.drop_eq_getElem_cons hk1m)
              have HXM1 : Hid (l2[k + 1].1 = m[k + 1]) := hid (by have := HM2.out; subst this; simp)
              have d0 := (HCL.out (k + 1) hk1).1
              rw [HXM1.out] at d0
              have d1 : wr.cell? ⟨g, o + (k + 1) * 5, none⟩ = some (.int .i64 m[k + 1].level) := (HBI.out.cell (p := ⟨g, o + (k + 1) * 5, none⟩) HG.out).trans d0
              have hk1i : (k : Int) + 1 < (l2.length : Int) := by omega
              have hk1j : (0 : Int) ≤ (k : Int) + 1 := by omega
              clear d0
              have HLE : Hid (S.leafB m[k] (m.drop (k + 1)) = decide (m[k + 1].level ≤ (lv : Int))) := hid (by rw [HDR1.out]; show decide _ = _; rw [HLV.out])
              by_cases hle : m[k + 1].level ≤ (lv : Int)
              · have HLF : Hid (S.leafB m[k] (m.drop (k + 1)) = true) := hid (by rw [HLE.out]; simpa using hle)
                have HS2 : Hid ((s' ++ tg ++ ⟨#[47, 62]⟩).data.toList ++ S.printF (m.drop (k + 1)) op' = T) := hid (by
                  rw [← HSR.out, HR5.out, if_pos HLF.out]; simp only [L.app_list, List.append_assoc])
                have hsm : s'.size + tg.size + 2 ≤ 9223372036854775807 := by
                  have h := congrArg List.length HS2.out
                  have hb := HBD.out
                  simp only [List.length_append, L.app_list, Array.length_toList, ByteArray.size_data, List.length_cons, List.length_nil] at h
                  omega
                have hsm2 : s'.size + tg.size + 2 ≤ maxLen := by unfold maxLen; omega
                clear HSR HR5 HLF HLE HDR1 HXM1
                go_wp2_with fail
                go_quiet (fail)
                have HBD2 := hid (below_drewN HBI.out nq)
                go_wp2_with fail
                refine (TGH.out _ HBD2.out).out.mono ?_
                rintro e w2 ⟨rfl, hb2⟩
                have HR2 : Hid (StrRow W0.heap.size (.slice qa op'.length qc) op' w2) := hid (own_below (w := wr.drewN nq) HRW.out hb2)
                have HB2 := hid (HBD2.out.trans (hb2.mono hwr))
                clear hb2
                go_wp2_with fail
                exact ⟨⟨k + 1, _, _, rfl, by go_num, by omega, hid ⟨HS2.out, HR2.out, HB2.out, by omega⟩⟩, by simp [intOf]; omega⟩
              · have HLF : Hid (¬ S.leafB m[k] (m.drop (k + 1)) = true) := hid (by rw [HLE.out]; simpa using hle)
                have HS2 : Hid ((s' ++ tg ++ ⟨#[62]⟩).data.toList ++ S.printF (m.drop (k + 1)) (op' ++ [m[k].name]) = T) := hid (by
                  rw [← HSR.out, HR5.out, if_neg HLF.out]; simp only [L.app_list, List.append_assoc])
                have hsm : s'.size + tg.size + 1 ≤ 9223372036854775807 := by
                  have h := congrArg List.length HS2.out
                  have hb := HBD.out
                  simp only [List.length_append, L.app_list, Array.length_toList, ByteArray.size_data, List.length_cons, List.length_nil] at h
                  omega
                have hsm2 : s'.size + tg.size + 1 ≤ maxLen := by unfold maxLen; omega
                clear HSR HR5 HLF HLE HDR1 HXM1
                go_wp2_with fail
                go_quiet (fail)
                have HBD2 := hid (below_drewN HBI.out nq)
                go_wp2_with fail
                refine (TGH.out _ HBD2.out).out.mono ?_
                rintro e w2 ⟨rfl, hb2⟩
                have HR2 : Hid (StrRow W0.heap.size (.slice qa op'.length qc) op' w2) := hid (own_below (w := wr.drewN nq) HRW.out hb2)
                have HB2 := hid (HBD2.out.trans (hb2.mono hwr))
                have e2 : w2.cell? ⟨g, o + k * 5 + 2, none⟩ = some (.string m[k].name) := (HCK.out w2 HB2.out).2.2.1
                clear hb2
                have hb0 := run_build0
                have HAL := hid (below_new w2 (.cells #[] 9))
                have e3 : (w2.alloc (.cells #[] 9)).cell? ⟨g, o + k * 5 + 2, none⟩ = some (.string m[k].name) := (HAL.out.cell (p := ⟨g, o + k * 5 + 2, none⟩) (Nat.lt_of_lt_of_le HG.out HB2.out.size)).trans e2
                have HB3 : Hid (Below W0.heap.size W0 (w2.alloc (.cells #[] 9))) := hid (HB2.out.trans (HAL.out.mono HB2.out.size))
                have HE0 : Hid (StrRow W0.heap.size (.slice (some ⟨w2.heap.size, 0, none⟩) 0 0) [] (w2.alloc (.cells #[] 9))) := hid ⟨by simp [encS], Or.inr ⟨w2.heap.size, 0, #[], rfl, HB2.out.size, heap_alloc_new w2 _, by simp, by decide, by simp, by simp [encS]⟩⟩
                have HM : Hid (op'.length + 1 ≤ maxLen ∧ (op'.length + 1) * 16 ≤ 140737488355328) := hid (by unfold maxLen; omega)
                -- the last append: one more name
                have push : ∀ (X : World) (gx cx : Nat), Below W0.heap.size W0 X → StrRow W0.heap.size (.slice (some ⟨gx, 0, none⟩) op'.length cx) op' X → ∀ g' cap' w5, w5.ownsRow W0.heap.size 9 1 (.slice (some ⟨g', 0, none⟩) (op'.length + 1) cap') (op'.length + 1) (encS op' ++ [.string m[k].name]) → World.grownBy (X.alloc (.cells #[.string m[k].name] 9)) w5 (Value.slice (some ⟨gx, 0, none⟩) op'.length cx).ownBlock → StrRow W0.heap.size (.slice (some ⟨g', 0, none⟩) (op'.length + 1) cap') (op' ++ [m[k].name]) w5 ∧ Below W0.heap.size W0 w5 := by
                  intro X gx cx hX hrow g' cap' w5 hown hgrow
                  refine ⟨?_, ?_⟩
                  · unfold StrRow
                    rw [show encS (op' ++ [m[k].name]) = encS op' ++ [.string m[k].name] by simp [encS], List.length_append]
                    exact hown
                  · have hA := below_new X (.cells #[.string m[k].name] 9)
                    refine (hX.trans (hA.mono hX.size)).grown hgrow (Nat.le_trans hX.size hA.size) (fun j hj => ?_)
                    simp only [Value.ownBlock, Option.some.injEq] at hj
                    rcases hrow.2 with ⟨h, _⟩ | ⟨q, _, _, h, hq, _⟩
                    · cases h
                    · simp only [Value.slice.injEq, Option.some.injEq, Addr.mk.injEq] at h
                      omega
                have HPU := hid push
                clear push e2
                have HCN : Hid (∀ X, Below W0.heap.size W0 X → X.cell? ⟨g, o + k * 5 + 2, none⟩ = some (.string m[k].name)) := hid (fun X hX => (HCK.out X hX).2.2.1)
                generalize m[k].name = nm at *
                by_cases h0 : op' = []
                · subst h0
                  simp only [List.length_nil] at *
                  have qaf : (qa = none ∧ qc = 0) ∨ ∃ gq, qa = some ⟨gq, 0, none⟩ := by
                    rcases HR2.out.2 with ⟨e0, _⟩ | ⟨gq, cq, curq, e0, _⟩
                    · simp only [Value.slice.injEq] at e0; exact .inl ⟨e0.1, e0.2.2⟩
                    · simp only [Value.slice.injEq] at e0; exact .inr ⟨gq, e0.1⟩
                  rcases qaf with ⟨rfl, rfl⟩ | ⟨gq, rfl⟩
                  · go_wp2_with fail
                    exact ⟨⟨k + 1, [nm], _, rfl, by go_num, by omega, hid ⟨HS2.out, str_new (by simp) (by have := HB2.out.size; omega) (cap_one _ _).1 (cap_one _ _).2, HB2.out.trans (below_two HB2.out.size _ _ _), by simp⟩⟩, by simp [intOf]; omega⟩
                  · go_wp2_with fail
                    exact ⟨⟨k + 1, [nm], _, rfl, by go_num, by omega, hid ⟨HS2.out, str_new (by simp) (by have := HB2.out.size; omega) (cap_one _ _).1 (cap_one _ _).2, HB2.out.trans (below_two HB2.out.size _ _ _), by simp⟩⟩, by simp [intOf]; omega⟩
                · have hp1 : 1 ≤ op'.length := List.length_pos_iff.2 h0
                  obtain ⟨gq, cq, eq, hBq, hgq, hlq, hcq⟩ := str_cells HR2.out h0
                  simp only [Value.slice.injEq] at eq
                  obtain ⟨rfl, -, rfl⟩ := eq
                  have HNW : Hid (∀ j u, (encS op')[j]? = some u → (w2.alloc (.cells #[] 9)).cell? ((⟨gq, 0, none⟩ : Addr).add j) = some u) := hid (fun j u hu => by
                    have hj : j < op'.length := by
                      rcases Nat.lt_or_ge j op'.length with q | q
                      · exact q
                      · rw [List.getElem?_eq_none (by simp [encS]; exact q)] at hu; cases hu
                    have := hcq j hj
                    rw [Addr.add_lit, Nat.zero_add, (HAL.out.cell (p := ⟨gq, j, none⟩) hgq), this]
                    simp only [encS, List.getElem?_map, List.getElem?_eq_getElem hj, Option.map_some] at hu
                    exact hu)
                  have HON : Hid (∀ u ∈ encS op', u.oneCell' = true) := hid (fun u hu => by
                    simp only [encS, List.mem_map] at hu
                    obtain ⟨x, _, rfl⟩ := hu
                    rfl)
                  have HM0 : Hid (0 + op'.length ≤ maxLen ∧ (0 + op'.length) * 16 ≤ 140737488355328) := hid (by unfold maxLen; omega)
                  have HEL : Hid ((encS op').length = op'.length * 1) := hid (by simp [encS])
                  clear hcq
                  go_wp2_with (first
                    | (at_builtin; refine wpList_append_lies _ rfl (.tmp 105) (.tmp 106) 68 rfl W0.heap.size 9 i0 (.string ⟨#[]⟩) 1 16 Tryd.underlying68 I0 I1 I2 I3 rfl (by decide) _ 0 (encS []) rfl HE0.out ⟨gq, 0, none⟩ op'.length qc (encS op') rfl HEL.out HNW.out HON.out hp1 HM0.out.1 HM0.out.2 HB3.out.size _ rfl ?_
                       intro g6 cap6 w6 hown6 hgrow6 _ _
                       have H6 := hid hown6
                       have hb6 := HB3.out.grown hgrow6 HB3.out.size (fun j hj => by have h2 : some w2.heap.size = some j := hj; cases h2; exact HB2.out.size)
                       have HB6 := hid hb6
                       have e6 : w6.cell? ⟨g, o + k * 5 + 2, none⟩ = some (.string nm) := (HCN.out w6 HB6.out)
                       clear hown6 hgrow6 hb6)
                    | (at_builtin; refine wpList_append_lies _ rfl (.tmp 108) (.tmp 114) 68 rfl W0.heap.size 9 i0 (.string ⟨#[]⟩) 1 16 Tryd.underlying68 I0 I1 I2 I3 rfl (by decide) _ op'.length (encS op') rfl (World.ownsRow.alloc (by have := H6.out; rwa [Nat.zero_add] at this) _) ⟨w6.heap.size, 0, none⟩ 1 1 [.string nm] rfl rfl (World.news_of_block (heap_alloc_new w6 _)) ?k1 (by decide) HM.out.1 HM.out.2 ?k2 _ rfl ?_))
                  case k1 => intro u hu; simp only [List.mem_cons, List.not_mem_nil, or_false] at hu; rcases hu with rfl; rfl
                  case k2 => exact Nat.le_trans HB6.out.size (by simp)
                  intro g7 cap7 w7 hown7 hgrow7 _ _
                  have HQ := hid (HPU.out w6 _ _ HB6.out (by have := H6.out; rwa [Nat.zero_add] at this) g7 cap7 w7 hown7 hgrow7)
                  clear hown7 hgrow7 HPU
                  go_wp2_with fail
                  exact ⟨⟨k + 1, op' ++ [nm], _, rfl, by go_num, by omega, hid ⟨HS2.out, HQ.out.1, HQ.out.2, by simp; omega⟩⟩, by simp [intOf]; omega⟩
    · have h1' : ¬ (k : Int) < (l2.length : Int) := by omega
      obtain rfl : k = l2.length := by omega
      have HFT : Hid (s.data.toList ++ S.closeL op 0 = T) := hid (by
        have := HP.out.text
        rw [List.drop_eq_nil_of_le (by rw [← HLM.out]; omega)] at this
        exact this)
      have HRO := hid HP.out.row
      have HBO := hid HP.out.below
      have hopl : op.length ≤ 1000 := by have := HP.out.len; omega
      clear HP
      have HW1 : Hid (Below w.heap.size w wr) := hid (HW0.out.trans (HBO.out.mono HW0.out.size))
      clear HBO
      go_wp2_with fail
      go_loopw [6, 12] (fun v6 v12 X => ∃ (q : Nat) (s' : ByteArray), v6 = .string s' ∧ v12 = .int .i64 ((q : Int) - 1) ∧ q ≤ op.length ∧ X = wr ∧ Hid (s'.data.toList ++ S.closeL (op.take q) 0 = T)) (fun _ v12 _ => ((intOf v12) + 1).toNat)
      case atStart => exact ⟨op.length, s, rfl, rfl, by omega, rfl, hid (by rw [List.take_length]; exact HFT.out)⟩
      case round =>
        obtain ⟨q, s', rfl, rfl, hq, rfl, HI⟩ := hrel
        rcases q with _ | q
        · have hn : ¬ (0 : Int) ≤ ((0 : Nat) : Int) - 1 := by omega
          obtain rfl : s' = S.bA T := L.bytes_one (by have := HI.out; simp only [List.take_zero, S.closeL, List.drop_nil, List.reverse_nil, List.flatMap_nil, List.append_nil] at this; rw [this]; rfl)
          go_wp2_with fail
          go_ret2
          exact ⟨rfl, HW1.out⟩
        · have hqo : q < op.length := by omega
          obtain ⟨g, cap', eq, hBg, hgr, hlr, hcr⟩ := str_cells HRO.out (by rintro rfl; simp at hqo)
          simp only [Value.slice.injEq] at eq
          obtain ⟨rfl, -, rfl⟩ := eq
          have d0 := hcr q hqo
          have e1 : (((q + 1 : Nat) : Int)) - 1 = (q : Int) := by omega
          have HCP : Hid (S.closeL (op.take (q + 1)) 0 = [60, 47] ++ (op[q].data.toList ++ [62]) ++ S.closeL (op.take q) 0) := hid (by rw [List.take_succ_eq_append_getElem hqo]; exact S.close_pop (by omega))
          have HN2 : Hid ((s' ++ ⟨#[60, 47]⟩ ++ op[q] ++ ⟨#[62]⟩).data.toList ++ S.closeL (op.take q) 0 = T) := hid (by
            rw [← HI.out, HCP.out]
            simp only [L.app_list, List.append_assoc])
          have hsm : s'.size + 2 + op[q].size + 1 ≤ 9223372036854775807 := by
            have h := congrArg List.length HN2.out
            have hb := HBD.out
            simp only [List.length_append, L.app_list, Array.length_toList, ByteArray.size_data, List.length_cons, List.length_nil] at h
            omega
          have hsm2 : s'.size + 2 + op[q].size + 1 ≤ maxLen := by unfold maxLen; omega
          have hqi : (q : Int) < (op.length : Int) := by omega
          rw [e1]
          clear HCP HI hcr
          generalize op[q] = nm at *
          go_wp2_with fail
          exact ⟨⟨q, _, rfl, rfl, by omega, trivial, HN2⟩, by simp [intOf]⟩
end Go.Proofs.YtmnegpdegfianaaDoor
