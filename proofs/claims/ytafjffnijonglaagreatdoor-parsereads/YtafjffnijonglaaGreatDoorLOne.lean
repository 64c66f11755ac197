/- The walk of lexis.One: the token at a place is told as the plain function says. -/
import Derived.Test.YtafjffnijonglaaGreatDoorLParts
namespace Go.Proofs.YtafjffnijonglaaGreatDoor
open Go.RowKit Go.Shelf
def tokV (t : L.Tok) (v : Value) : Value := .agg #[.int .i64 t.kind, .int .i64 (t.pos : Int), .string t.name, .string t.text, v]
def zeroT : Value := .agg #[.int .i64 0, .int .i64 0, .string ⟨#[]⟩, .string ⟨#[]⟩, .slice none 0 0]
/-- What is told, and left, behind One. -/
def OnePost (w : World) (res : Except L.Bad (L.Tok × Nat)) (e : Ending) (w' : World) : Prop :=
  Below w.heap.size w w' ∧
  ((∃ (q e0 : Int), res = .error (q, e0) ∧ e0 ≠ 0 ∧ e = .returned (.tuple #[zeroT, .int .i64 0, .int .i64 q, .int .i64 e0])) ∨
   (∃ (t : L.Tok) (n : Nat) (v : Value), res = .ok (t, n) ∧ e = .returned (.tuple #[tokV t v, .int .i64 (n : Int), .int .i64 0, .int .i64 0]) ∧ w'.ownsRow w.heap.size 67 2 v t.attrs.length (encL t.attrs)))
def zeroObj : Obj := .cells #[.int .i64 0, .int .i64 0, .string ⟨#[]⟩, .string ⟨#[]⟩, .slice none 0 0] 40 (0, 0)
set_option maxRecDepth 100000 in
set_option maxHeartbeats 4000000 in
theorem one_out (s : ByteArray) (z : Int) (w : World) (h : z < 0 ∨ (s.size : Int) ≤ z) :
    Calls Tryz.prog 11 #[.string s, .int .i64 z] w (OnePost w (L.oneP s z)) := by
  have HR : Hid (L.oneP s z = .error (z, 30)) := by show _ = _; unfold L.oneP; rw [if_pos h]
  rcases h with h | h
  · go_enter Tryz.func11, Tryz.ntmps11
    go_wp2_with fail
    refine scope_named fun F HF => ?_
    refine wp_scope_land F HF.out 0 1 (fun _ _ => False) (fun _ _ => 0) ((congrFun HF.out 0).trans rfl) ?_ (fun _ _ h => h.elim)
    go_wp2
    go_step3
    refine Or.inr ⟨_, (congrFun HF.out 0).trans rfl, ?_⟩
    go_wp2
    go_region
    all_goals
      go_wp2
      rw [landQ_other _ (by simp)]
      refine bodyPost_ret (v := .tuple #[zeroT, .int .i64 0, .int .i64 z, .int .i64 30]) (by simp [results, Tryz.results11, go_sem, zeroT]) rfl ⟨((((Below.refl _ _).alloc (Nat.le_refl _) _).alloc (by simp) _).drew), Or.inl ⟨z, 30, HR.out, by decide, rfl⟩⟩
  · go_enter Tryz.func11, Tryz.ntmps11
    go_wp2_with fail
    refine scope_named fun F HF => ?_
    refine wp_scope_land F HF.out 0 1 (fun _ _ => False) (fun _ _ => 0) ((congrFun HF.out 0).trans rfl) ?_ (fun _ _ h => h.elim)
    have h0 : ¬ z < 0 := by omega
    go_wp2
    go_step3
    refine Or.inr ⟨_, (congrFun HF.out 0).trans rfl, ?_⟩
    go_wp2
    go_region
    all_goals
      go_wp2
      rw [landQ_other _ (by simp)]
      refine bodyPost_ret (v := .tuple #[zeroT, .int .i64 0, .int .i64 z, .int .i64 30]) (by simp [results, Tryz.results11, go_sem, zeroT]) rfl ⟨((((Below.refl _ _).alloc (Nat.le_refl _) _).alloc (by simp) _).drew), Or.inl ⟨z, 30, HR.out, by decide, rfl⟩⟩
end Go.Proofs.YtafjffnijonglaaGreatDoor
