/- FlagsNone: its walk. -/
import Derived.Test.YtnkgkimlmceciaaMore
namespace Go.Proofs.Ytnkgkimlmceciaa
open Go.RowKit Go.Shelf
attribute [local go_sem] Oper.semAt_some

set_option maxRecDepth 100000 in
set_option maxHeartbeats 4000000 in
/-- FlagsNone. -/
theorem none_walk (is : Bool) (old n : Int) (h1 : I64 old) (h2 : I64 n) (w : World) : Calls Try.prog 8 #[.bool is, .int .i64 old, .int .i64 n] w fun e w' => e = .returned (.bool true) ∧ Below w.heap.size w w' := by
  have HS := fun w => Lib.hid (shown_any w)
  have HA := fun w => Lib.hid (decide_any ⟨false, false, false, false, false, false⟩ is old n h1 h2 w)
  have HB := fun w => Lib.hid (decide_any ⟨false, false, false, false, true, false⟩ is old n h1 h2 w)
  have e1 : dec ⟨false, false, false, false, false, false⟩ is old n = (n, deedD ⟨false, false, false, false, false, false⟩ is old n, 0) := by cases is <;> simp [dec, Fl.right, deedN, deedD, stays]
  have e2 : dec ⟨false, false, false, false, true, false⟩ is old n = (n, deedD ⟨false, false, false, false, false, false⟩ is old n, 0) := by cases is <;> simp [dec, Fl.right, deedN, deedD, stays]
  rw [decT_of e1] at HA
  rw [decT_of e2] at HB
  simp only [Fl.v, Fl.c] at HA HB ⊢
  clear e1 e2 h1 h2
  have hcs : (is = false ∧ deedD ⟨false, false, false, false, false, false⟩ is old n = 1) ∨ (is = true ∧ (old == n) = true ∧ deedD ⟨false, false, false, false, false, false⟩ is old n = 0) ∨ (is = true ∧ (old == n) = false ∧ deedD ⟨false, false, false, false, false, false⟩ is old n = 2) := by
    cases is
    · left; simp [deedD]
    · right
      by_cases e : old = n
      · left; subst e; simp [deedD]
      · right
        have : ¬ n = old := fun x => e x.symm
        simp [deedD, stays, e, this]
  generalize deedD ⟨false, false, false, false, false, false⟩ is old n = d at *
  rcases hcs with ⟨rfl, rfl⟩ | ⟨rfl, hon, rfl⟩ | ⟨rfl, hon, rfl⟩
  all_goals go_enter Try.func8, Try.ntmps8
  all_goals go_wp2_with fail
  all_goals refine (HS _).out.mono ?_
  all_goals rintro e w1 ⟨rfl, hb1⟩
  all_goals have B1 := Lib.hid hb1
  all_goals clear hb1
  all_goals go_wp2_with fail
  all_goals refine (HA _).out.mono ?_
  all_goals rintro e w2 ⟨rfl, hb2⟩
  all_goals have B2 := Lib.hid (B1.out.trans (hb2.mono B1.out.size))
  all_goals clear B1 hb2
  all_goals go_wp2_with fail
  all_goals refine (HB _).out.mono ?_
  all_goals rintro e w3 ⟨rfl, hb3⟩
  all_goals have B3 := Lib.hid (B2.out.trans (hb3.mono B2.out.size))
  all_goals clear B2 hb3
  all_goals go_wp2_with fail
  all_goals go_ret
  all_goals exact ⟨by simp, B3.out⟩
end Go.Proofs.Ytnkgkimlmceciaa
