/- Plain mathematics for layer pathq: what is written of steps that may be is read as these. No program is spoken of here. -/
import Derived.Test.YtmgemdhpjibdiaaDoorQPlain
namespace Go.Proofs.YtmgemdhpjibdiaaDoor
namespace Q
open L G E S
theorem there_pre (pre t u : List UInt8) : thereB (bA (pre ++ t)) pre.length u = u.isPrefixOf t := by
  unfold thereB
  rw [bA_list, List.drop_left]
theorem not_pre {t u : List UInt8} {c d : UInt8} {r s : List UInt8} (h1 : t = c :: r) (h2 : u = d :: s) (h : d ≠ c) : u.isPrefixOf t = false := by
  rw [h1, h2]
  simp [List.isPrefixOf, h]
theorem pred_at {p : Pred} {pre post : List UInt8} (h : rightP p) : predQ (bA (pre ++ (predW p ++ ([93] ++ post)))) pre.length = .ok (p, pre.length + (predW p).length) := by
  obtain ⟨kd, nu, nm, vl⟩ := p
  unfold rightP at h
  dsimp only at h
  rcases h with ⟨rfl, h1, h2, rfl, rfl⟩ | ⟨rfl, rfl, rfl, rfl⟩ | ⟨rfl, rfl, h1, rfl⟩ | ⟨rfl, rfl, h1, h2⟩ | ⟨rfl, rfl, rfl, h1⟩
  · have e : predW ⟨1, nu, noB, noB⟩ = digitsL nu := by simp [predW]
    rw [e]
    obtain ⟨c, r, hc, _⟩ := digits_head 20 nu.toNat (by omega) (by omega)
    have hd := digits_all 20 nu.toNat c (by rw [hc]; simp)
    unfold digitB at hd
    simp only [Bool.and_eq_true, decide_eq_true_eq] at hd
    have hne : ∀ d : UInt8, 57 < d.toNat → d ≠ c := fun d hx q => by rw [q] at hx; omega
    have hl : digitsL nu ++ ([93] ++ post) = c :: (r ++ ([93] ++ post)) := by unfold digitsL; rw [hc]; rfl
    unfold predQ
    rw [there_pre, there_pre, there_pre, not_pre hl (show lastW = 108 :: _ from rfl) (hne _ (by decide)), not_pre hl (show textW = 116 :: _ from rfl) (hne _ (by decide)), not_pre hl (show [64] = 64 :: [] from rfl) (hne _ (by decide))]
    simp only [Bool.false_eq_true, if_false, if_true]
    exact number_at h1 h2 (by simp [digitB])
  · have e : predW ⟨2, 0, noB, noB⟩ = lastW := by simp [predW]
    rw [e]
    unfold predQ
    rw [if_pos (there_at pre lastW _)]
    rfl
  · have e : predW ⟨3, 0, nm, noB⟩ = [64] ++ nm.data.toList := by simp [predW]
    rw [e]
    have hl : [64] ++ nm.data.toList ++ ([93] ++ post) = 64 :: (nm.data.toList ++ ([93] ++ post)) := by simp
    have e2 : pre ++ ([64] ++ nm.data.toList ++ ([93] ++ post)) = (pre ++ [64]) ++ (nm.data.toList ++ ([93] ++ post)) := by simp
    have n1 : nameEnd (bA (pre ++ ([64] ++ nm.data.toList ++ ([93] ++ post)))) (pre.length + 1) = pre.length + 1 + nm.data.toList.length := by
      have := name_at (pre := pre ++ [64]) (post := [93] ++ post) h1 (Or.inr ⟨93, post, rfl, by simp⟩)
      rw [e2]
      simpa using this
    have x1 : (bA (pre ++ ([64] ++ nm.data.toList ++ ([93] ++ post)))).extract (pre.length + 1) (pre.length + 1 + nm.data.toList.length) = nm := by
      have := ext_at (pre ++ [64]) nm.data.toList ([93] ++ post)
      rw [bA_self] at this
      rw [e2]
      simpa using this
    have t1 : thereB (bA (pre ++ ([64] ++ nm.data.toList ++ ([93] ++ post)))) (pre.length + 1 + nm.data.toList.length) [61] = false := by
      have := there_not (pre ++ [64] ++ nm.data.toList) ([93] ++ post) 61 [] (by simp)
      have e3 : pre ++ ([64] ++ nm.data.toList ++ ([93] ++ post)) = (pre ++ [64] ++ nm.data.toList) ++ ([93] ++ post) := by simp
      rw [e3]
      have hlen : (pre ++ [64] ++ nm.data.toList).length = pre.length + 1 + nm.data.toList.length := by simp; omega
      rw [hlen] at this
      exact this
    unfold predQ
    rw [there_pre, there_pre, there_pre, not_pre hl (show lastW = 108 :: _ from rfl) (by decide), not_pre hl (show textW = 116 :: _ from rfl) (by decide), hl, show ([64] : List UInt8).isPrefixOf (64 :: (nm.data.toList ++ ([93] ++ post))) = true by simp [List.isPrefixOf]]
    rw [← hl]
    simp only [Bool.false_eq_true, if_false, reduceCtorEq]
    rw [n1, x1, if_neg (by rw [h1]; simp), if_pos t1]
    simp
    omega
  · have e : predW ⟨4, 0, nm, vl⟩ = [64] ++ (nm.data.toList ++ ([61, 34] ++ (evQ vl ++ [34]))) := by simp [predW]
    rw [e]
    have hl : [64] ++ (nm.data.toList ++ ([61, 34] ++ (evQ vl ++ [34]))) ++ ([93] ++ post) = 64 :: (nm.data.toList ++ ([61, 34] ++ (evQ vl ++ [34])) ++ ([93] ++ post)) := by simp
    have e2 : pre ++ ([64] ++ (nm.data.toList ++ ([61, 34] ++ (evQ vl ++ [34]))) ++ ([93] ++ post)) = (pre ++ [64]) ++ (nm.data.toList ++ (61 :: ([34] ++ (evQ vl ++ ([34] ++ ([93] ++ post)))))) := by simp
    have n1 : nameEnd (bA (pre ++ ([64] ++ (nm.data.toList ++ ([61, 34] ++ (evQ vl ++ [34]))) ++ ([93] ++ post)))) (pre.length + 1) = pre.length + 1 + nm.data.toList.length := by
      have := name_at (pre := pre ++ [64]) (post := 61 :: ([34] ++ (evQ vl ++ ([34] ++ ([93] ++ post))))) h1 (Or.inr ⟨61, _, rfl, by simp⟩)
      rw [e2]
      simpa using this
    have x1 : (bA (pre ++ ([64] ++ (nm.data.toList ++ ([61, 34] ++ (evQ vl ++ [34]))) ++ ([93] ++ post)))).extract (pre.length + 1) (pre.length + 1 + nm.data.toList.length) = nm := by
      have := ext_at (pre ++ [64]) nm.data.toList (61 :: ([34] ++ (evQ vl ++ ([34] ++ ([93] ++ post)))))
      rw [bA_self] at this
      rw [e2]
      simpa using this
    have e3 : pre ++ ([64] ++ (nm.data.toList ++ ([61, 34] ++ (evQ vl ++ [34]))) ++ ([93] ++ post)) = (pre ++ [64] ++ nm.data.toList) ++ ([61] ++ ([34] ++ (evQ vl ++ ([34] ++ ([93] ++ post))))) := by simp
    have t1 : thereB (bA (pre ++ ([64] ++ (nm.data.toList ++ ([61, 34] ++ (evQ vl ++ [34]))) ++ ([93] ++ post)))) (pre.length + 1 + nm.data.toList.length) [61] = true := by
      have := there_at (pre ++ [64] ++ nm.data.toList) [61] ([34] ++ (evQ vl ++ ([34] ++ ([93] ++ post))))
      have hlen : (pre ++ [64] ++ nm.data.toList).length = pre.length + 1 + nm.data.toList.length := by simp; omega
      rw [e3]
      rw [hlen] at this
      exact this
    have v1 : valueQ (bA (pre ++ ([64] ++ (nm.data.toList ++ ([61, 34] ++ (evQ vl ++ [34]))) ++ ([93] ++ post)))) (pre.length + 1 + nm.data.toList.length + 1) = .ok (vl, pre.length + 1 + nm.data.toList.length + 1 + 1 + (evQ vl).length + 1) := by
      have := value_at (pre := pre ++ [64] ++ nm.data.toList ++ [61]) (post := [93] ++ post) h2
      have e4 : pre ++ ([64] ++ (nm.data.toList ++ ([61, 34] ++ (evQ vl ++ [34]))) ++ ([93] ++ post)) = (pre ++ [64] ++ nm.data.toList ++ [61]) ++ ([34] ++ (evQ vl ++ ([34] ++ ([93] ++ post)))) := by simp
      rw [e4]
      have hlen : (pre ++ [64] ++ nm.data.toList ++ [61]).length = pre.length + 1 + nm.data.toList.length + 1 := by simp; omega
      rw [hlen] at this
      exact this
    unfold predQ
    rw [there_pre, there_pre, there_pre, not_pre hl (show lastW = 108 :: _ from rfl) (by decide), not_pre hl (show textW = 116 :: _ from rfl) (by decide), hl, show ([64] : List UInt8).isPrefixOf (64 :: (nm.data.toList ++ ([61, 34] ++ (evQ vl ++ [34])) ++ ([93] ++ post))) = true by simp [List.isPrefixOf]]
    rw [← hl]
    simp only [Bool.false_eq_true, if_false, reduceCtorEq]
    rw [n1, x1, if_neg (by rw [h1]; simp), if_neg (by rw [t1]; simp), v1]
    simp
    omega
  · have e : predW ⟨5, 0, noB, vl⟩ = textW ++ ([61, 34] ++ (evQ vl ++ [34])) := by simp [predW]
    rw [e]
    have e2 : pre ++ (textW ++ ([61, 34] ++ (evQ vl ++ [34])) ++ ([93] ++ post)) = pre ++ (textW ++ ([61, 34] ++ (evQ vl ++ [34]) ++ ([93] ++ post))) := by simp
    have hl : textW ++ ([61, 34] ++ (evQ vl ++ [34])) ++ ([93] ++ post) = 116 :: ([101, 120, 116, 40, 41] ++ ([61, 34] ++ (evQ vl ++ [34])) ++ ([93] ++ post)) := by simp [textW]
    have t0 : thereB (bA (pre ++ (textW ++ ([61, 34] ++ (evQ vl ++ [34])) ++ ([93] ++ post)))) pre.length textW = true := by rw [e2]; exact there_at pre textW _
    have t1 : thereB (bA (pre ++ (textW ++ ([61, 34] ++ (evQ vl ++ [34])) ++ ([93] ++ post)))) (pre.length + 6) [61] = true := by
      have := there_at (pre ++ textW) [61] ([34] ++ (evQ vl ++ [34]) ++ ([93] ++ post))
      have e3 : pre ++ (textW ++ ([61, 34] ++ (evQ vl ++ [34])) ++ ([93] ++ post)) = (pre ++ textW) ++ ([61] ++ ([34] ++ (evQ vl ++ [34]) ++ ([93] ++ post))) := by simp
      rw [e3]
      have hlen : (pre ++ textW).length = pre.length + 6 := by simp [textW]
      rw [hlen] at this
      exact this
    have v1 : valueQ (bA (pre ++ (textW ++ ([61, 34] ++ (evQ vl ++ [34])) ++ ([93] ++ post)))) (pre.length + 7) = .ok (vl, pre.length + 7 + 1 + (evQ vl).length + 1) := by
      have := value_at (pre := pre ++ textW ++ [61]) (post := [93] ++ post) h1
      have e4 : pre ++ (textW ++ ([61, 34] ++ (evQ vl ++ [34])) ++ ([93] ++ post)) = (pre ++ textW ++ [61]) ++ ([34] ++ (evQ vl ++ ([34] ++ ([93] ++ post)))) := by simp
      rw [e4]
      have hlen : (pre ++ textW ++ [61]).length = pre.length + 7 := by simp [textW]
      rw [hlen] at this
      exact this
    unfold predQ
    rw [if_neg (by rw [there_pre, not_pre hl (show lastW = 108 :: _ from rfl) (by decide)]; simp), if_pos t0, if_neg (by rw [t1]; simp), v1]
    simp [textW]
    omega
theorem preds_at {post : List UInt8} (hp : post.head? ≠ some 91) : ∀ (l acc : List Pred) (f : Nat) (pre : List UInt8), (∀ p ∈ l, rightP p) → acc.length + l.length ≤ 5 → l.length < f → predsF f (bA (pre ++ (predsW l ++ post))) pre.length acc = .ok (acc ++ l, pre.length + (predsW l).length)
  | [], acc, 0, _, _, _, h => by omega
  | [], acc, f + 1, pre, _, _, _ => by
    unfold predsF
    rw [if_pos (by
      have := there_not pre post 91 [] hp
      simpa [predsW] using this)]
    simp [predsW]
  | p :: l, acc, 0, _, _, _, h => by omega
  | p :: l, acc, f + 1, pre, hr, hl, hf => by
    have e0 : pre ++ (predsW (p :: l) ++ post) = pre ++ ([91] ++ (predW p ++ ([93] ++ (predsW l ++ post)))) := by simp [predsW]
    have t1 : thereB (bA (pre ++ (predsW (p :: l) ++ post))) pre.length [91] = true := by rw [e0]; exact there_at _ _ _
    have e1 : pre ++ (predsW (p :: l) ++ post) = (pre ++ [91]) ++ (predW p ++ ([93] ++ (predsW l ++ post))) := by simp [predsW]
    have hpq : predQ (bA (pre ++ (predsW (p :: l) ++ post))) (pre.length + 1) = .ok (p, pre.length + 1 + (predW p).length) := by
      have := pred_at (pre := pre ++ [91]) (post := predsW l ++ post) (hr p (List.mem_cons_self ..))
      rw [e1]
      simpa using this
    have t2 : thereB (bA (pre ++ (predsW (p :: l) ++ post))) (pre.length + 1 + (predW p).length) [93] = true := by
      have := there_at (pre ++ [91] ++ predW p) [93] (predsW l ++ post)
      have e2 : pre ++ (predsW (p :: l) ++ post) = (pre ++ [91] ++ predW p) ++ ([93] ++ (predsW l ++ post)) := by simp [predsW]
      rw [e2]
      have hlen : (pre ++ [91] ++ predW p).length = pre.length + 1 + (predW p).length := by simp; omega
      rw [hlen] at this
      exact this
    unfold predsF
    rw [if_neg (by rw [t1]; simp), if_neg (by simp at hl; omega), hpq]
    simp only
    rw [if_neg (by rw [t2]; simp)]
    have e3 : pre ++ (predsW (p :: l) ++ post) = (pre ++ [91] ++ predW p ++ [93]) ++ (predsW l ++ post) := by simp [predsW]
    have ih := preds_at hp l (acc ++ [p]) f (pre ++ [91] ++ predW p ++ [93]) (fun z hz => hr z (List.mem_cons_of_mem _ hz)) (by simp at hl ⊢; omega) (by simpa using hf)
    have hlen : (pre ++ [91] ++ predW p ++ [93]).length = pre.length + 1 + (predW p).length + 1 := by simp; omega
    rw [hlen] at ih
    rw [e3, ih]
    simp [predsW]
    omega
end Q
end Go.Proofs.YtmgemdhpjibdiaaDoor
