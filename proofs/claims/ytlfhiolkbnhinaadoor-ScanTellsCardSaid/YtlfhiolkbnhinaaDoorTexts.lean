/- The reference's comparison of two lists of texts, where they are the same. -/
import Derived.Test.YtlfhiolkbnhinaaDoorScanMoves
namespace Go.Proofs.YtlfhiolkbnhinaaDoor
open Go.RowKit Go.Shelf
attribute [local go_sem] Oper.semAt_some

set_option maxRecDepth 100000 in
theorem texts_same {B B' : Nat} {u u' : Value} {ks : List (List UInt8)} {w : World} (hu : Own9 w B u ks) (hu' : Own9 w B' u' ks) (hl : ks.length ≤ 1000000) : Calls Tryd.prog 19 #[u, u'] w fun e w' => e = .returned (.bool true) ∧ Below w.heap.size w w' := by
  obtain ⟨A, cap, rfl, hA⟩ := hu.form
  obtain ⟨A', cap', rfl, hA'⟩ := hu'.form
  have HA := Lib.hid hA
  have HA' := Lib.hid hA'
  clear hA hA' hu hu'
  go_enter Tryd.func19, Tryd.ntmps19
  go_wp2
  go_loopw [5] (fun i wr => ∃ j : Nat, i = .int .i64 j ∧ j ≤ ks.length ∧ Below w.heap.size w wr ∧ ∀ a, wr.cell? a = w.cell? a) (fun i _ => ks.length - (intOf i).toNat)
  case atStart => exact ⟨0, rfl, by omega, Below.refl _ _, fun _ => rfl⟩
  case round =>
    obtain ⟨j, rfl, hj, hb, hc⟩ := hrel
    by_cases hlt : j < ks.length
    · obtain ⟨g, rfl, z⟩ := HA.out j hlt
      obtain ⟨g', rfl, z'⟩ := HA'.out j hlt
      rw [← hc] at z z'
      generalize keyB ks[j] = s at *
      have HB := Lib.hid hb
      have HC := Lib.hid hc
      clear hb hc
      go_wp2
      go_quiet (fail)
      go_wp2
      refine ⟨⟨j + 1, by go_num, by omega, HB.out.trans ((below_drewN (Below.refl _ _) nq).mono HB.out.size), fun a => HC.out a⟩, by simp [intOf]; omega⟩
    · have HB := Lib.hid hb
      clear hb hc
      have hj2 : (ks.length : Int) ≤ j := by omega
      go_wp2
      go_returns
      exact ⟨rfl, HB.out⟩
end Go.Proofs.YtlfhiolkbnhinaaDoor
