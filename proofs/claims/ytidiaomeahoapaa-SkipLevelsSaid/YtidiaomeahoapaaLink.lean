/- link: the place of a step's link. start: the head's step. -/
import Derived.Test.YtidiaomeahoapaaRange
import Derived.Test.YtidiaomeahoapaaShelf
import Derived.Deep.Quiet
namespace Go.Proofs.Ytidiaomeahoapaa
open Go.RowKit Go.Shelf
attribute [local go_sem] Oper.semAt_some

theorem blk3 {W W' : World} {c0 c1 c2 : Value} {t : TypeId} {b : Nat} (hb : W.heap.size = b) (h : Below (W.alloc (.cells #[c0, c1, c2] t)).heap.size (W.alloc (.cells #[c0, c1, c2] t)) W') :
    W'.cell? ⟨b, 0, none⟩ = some c0 ∧ W'.cell? ⟨b, 1, none⟩ = some c1 ∧ W'.cell? ⟨b, 2, none⟩ = some c2 := by
  subst hb
  refine ⟨?_, ?_, ?_⟩ <;> (rw [h.cell (p := ⟨_, _, none⟩) (by simp), World.cell?_alloc_new]; rfl)

theorem drewB (W : World) (n : Nat) : Below W.heap.size W (W.drewN n) := ⟨rfl, rfl, rfl, Nat.le_refl _, fun _ _ => rfl⟩

set_option maxRecDepth 100000 in
theorem link_any (b : Nat) (pl : Int) (k : Nat) (hk : k < 32) (w : World) : Calls Try.prog 36 #[.agg #[.pointer (some ⟨b, 0, none⟩), .int .i64 pl, .int .i64 k]] w fun e w' => e = .returned (.pointer (some ⟨b, 3 + k * 2, none⟩)) ∧ Below w.heap.size w w' := by
  go_enter Try.func36, Try.ntmps36
  go_wp2_with fail
  go_quiet (fail)
  go_wp2
  go_ret
  exact ⟨rfl, ((Below.refl _ _).alloc (Nat.le_refl _) _).trans ((drewB _ _).mono (by simp))⟩

set_option maxRecDepth 100000 in
theorem start_any (b : Nat) (k : Nat) (w : World) : Calls Try.prog 39 #[.pointer (some ⟨b, 0, none⟩), .int .i64 k] w fun e w' => e = .returned (.agg #[.pointer (some ⟨b, 0, none⟩), .int .i64 (-1), .int .i64 k]) ∧ Below w.heap.size w w' := by
  go_enter Try.func39, Try.ntmps39
  go_wp2
  go_returns
  exact ⟨rfl, (Below.refl _ _).alloc (Nat.le_refl _) _⟩

set_option maxRecDepth 100000 in
theorem tie_none (b t : Nat) (A : Array Value) (w : World) (h : Blk w b t A) (h3 : A[3]? = some (.pointer none)) : Calls Try.prog 54 #[.pointer (some ⟨b, 0, none⟩)] w fun e w' => e = .returned (.tuple #[]) ∧ w' = w := by
  have e0 := h.cell 3
  rw [h3] at e0
  go_enter Try.func54, Try.ntmps54
  go_wp2
  go_returns
  exact ⟨rfl, rfl⟩
set_option maxRecDepth 100000 in
theorem tie_some (b t b' t' : Nat) (A A' : Array Value) (w : World) (h : Blk w b t A) (h3 : A[3]? = some (.pointer (some ⟨b', 0, none⟩))) (h' : Blk w b' t' A') (hs : 2 < A'.size) : Calls Try.prog 54 #[.pointer (some ⟨b, 0, none⟩)] w fun e w' => e = .returned (.tuple #[]) ∧ w' = w.setCell ⟨b', 2, none⟩ (.pointer (some ⟨b, 0, none⟩)) := by
  have e0 := h.cell 3
  rw [h3] at e0
  have e1 := h'.cell 2
  rw [Array.getElem?_eq_getElem hs] at e1
  have e2 := h'.free 2
  go_enter Try.func54, Try.ntmps54
  go_wp2
  go_returns
  exact ⟨rfl, rfl⟩
end Go.Proofs.Ytidiaomeahoapaa
