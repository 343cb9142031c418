/- The library's table of powers, whatever it holds, out of the world's shape. -/
import Derived.Test.YtjcgfbmkgfhnaaaDoorLaid
import Derived.Test.YtjcgfbmkgfhnaaaDoorFmt
namespace Go.Proofs.YtjcgfbmkgfhnaaaDoor
open Go.ChangeShapes Go.WideShapes Go.ChangeAt Go.RowKit

theorem cells_of_shape {P : Program} {w : World} {g n : Nat} {t s : TypeId} {zero : Array Value} {k : IntKind} (h : w.ShapedOpen P) (hg : g < P.globals.size)
    (h0 : ((begin P (fun _ _ => 0) default).world.heap[g]?).bind Obj.row? = some (zero, t)) (hz : zero.size = n)
    (hb : P.buildable t = true) (hc : P.cellTypes P.depth t = some (List.replicate n s)) (hu : P.underlying s = some (.int k)) :
    ∃ T : Nat → Int, ∀ i, i < n → w.cell? ⟨g, i, none⟩ = some (.int k (T i)) := by
  obtain ⟨cs, hh, hs, hr⟩ := h.1 g zero t hg h0
  obtain ⟨ts, hts, _, hall⟩ := hr hb
  rw [hc] at hts
  cases hts
  have key : ∀ i, i < n → ∃ m, w.cell? ⟨g, i, none⟩ = some (.int k m) := fun i hi => by
    have hlt : i < cs.size := by omega
    obtain ⟨u, hu', hok⟩ := hall i cs[i] (by simp [hlt])
    have : u = s := by
      rw [List.length_replicate, Nat.mod_eq_of_lt hi, List.getElem?_replicate, if_pos hi] at hu'
      exact (Option.some.inj hu').symm
    subst this
    have hcell : w.cell? ⟨g, i, none⟩ = some cs[i] := by simp [World.cell?, hh, hlt]
    rw [hcell]
    unfold Cell.ok at hok
    rw [hu] at hok
    cases hv : cs[i] <;> rw [hv] at hok <;> simp at hok
    case int k' m => exact ⟨m, by rw [hok.1]⟩
  refine ⟨fun i => if h : i < n then (key i h).choose else 0, fun i hi => ?_⟩
  simp only [hi, dif_pos]
  exact (key i hi).choose_spec

theorem shape3 : ((begin Tryd.prog (fun _ _ => 0) default).world.heap[3]?).bind Obj.row? = some ((Array.replicate 20 (.int .u64 0)), 167) := by kernel_rfl
theorem tab_of_shape {W : World} (hS : W.ShapedOpen Tryd.prog) : ∃ T, Tab T W ∧ 3 < W.heap.size := by
  obtain ⟨T, hT⟩ := cells_of_shape (g := 3) (n := 20) (s := 161) (k := .u64) hS (of_decide_eq_true (by kernel_rfl)) shape3 (by kernel_rfl) (by kernel_rfl) (by kernel_rfl) Tryd.underlying161
  exact ⟨T, hT, World.block_lt_of_cell? _ ⟨3, 0, none⟩ (hT 0 (by omega))⟩
end Go.Proofs.YtjcgfbmkgfhnaaaDoor
