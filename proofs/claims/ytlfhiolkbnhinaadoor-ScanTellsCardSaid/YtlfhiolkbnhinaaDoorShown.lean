/- The examples that every law asks first. -/
import Derived.Test.YtlfhiolkbnhinaaDoorNext
namespace Go.Proofs.YtlfhiolkbnhinaaDoor
open Go.RowKit Go.Shelf
attribute [local go_sem] Oper.semAt_some

theorem n0 : nextN 0 8 = 4 := by decide +kernel
theorem n4 : nextN 4 8 = 2 := by decide +kernel
theorem n7 : nextN 7 8 = 0 := by decide +kernel
theorem s8 : isS ((8 : Nat) : Int) = true := by decide +kernel
theorem s6 : isS 6 = false := by decide +kernel
set_option maxHeartbeats 1000000 in
theorem shown_any (w : World) (hE : Env w) : Calls Tryd.prog 10 #[] w fun e w' => e = .returned (.bool true) ∧ Below w.heap.size w w' := by
  have H0 := fun W hE => next_any 0 (by decide) 8 s8 W hE
  have H4 := fun W hE => next_any 4 (by decide) 8 s8 W hE
  have H7 := fun W hE => next_any 7 (by decide) 8 s8 W hE
  have H6 := fun W => next_none 0 6 s6 W
  rw [n0] at H0
  rw [n4] at H4
  rw [n7] at H7
  have G0 := fun W hE => Lib.hid (H0 W hE)
  have G4 := fun W hE => Lib.hid (H4 W hE)
  have G7 := fun W hE => Lib.hid (H7 W hE)
  have G6 := fun W => Lib.hid (H6 W)
  clear H0 H4 H7 H6
  go_enter Tryd.func10, Tryd.ntmps10
  go_wp2_with fail
  refine (G0 _ hE).out.mono ?_
  rintro e w1 ⟨rfl, hb1⟩
  have hE1 := hE.below hb1
  go_wp2_with fail
  refine (G4 _ hE1).out.mono ?_
  rintro e w2 ⟨rfl, hb2⟩
  have hE2 := hE1.below hb2
  go_wp2_with fail
  refine (G7 _ hE2).out.mono ?_
  rintro e w3 ⟨rfl, hb3⟩
  go_wp2_with fail
  refine (G6 _).out.mono ?_
  rintro e w4 ⟨rfl, hb4⟩
  go_wp2
  go_ret
  have h2 := hb1.trans (hb2.mono hb1.size)
  have h3 := h2.trans (hb3.mono h2.size)
  exact ⟨rfl, h3.trans (hb4.mono h3.size)⟩
end Go.Proofs.YtlfhiolkbnhinaaDoor
