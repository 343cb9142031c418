/- The reference's Bucket of a slot that is none. -/
import Derived.Test.YtifbambalfifaaaRdel
import Derived.Test.YtifbambalfifaaaRsort
namespace Go.Proofs.Ytifbambalfifaaa
open Go.RowKit Go.Shelf
attribute [local go_sem] Oper.semAt_some

section
variable {S : Nat → Prop} {p seed : Nat} {R : Rd} {w : World}
set_option maxRecDepth 100000 in
theorem refbucket_out (h : RRep w p S seed R) (t s : Int) (hr : t < 0 ∨ 1 < t ∨ s < 0 ∨ (t = 0 ∧ (R.A : Int) ≤ s) ∨ (t = 1 ∧ (R.B : Int) ≤ s)) :
    Calls Try.prog 16 #[.pointer (some ⟨p, 0, none⟩), .int .i64 t, .int .i64 s] w fun e w' => e = .returned (.tuple #[.slice none 0 0, .int .i64 2]) ∧ w' = w := by
  obtain ⟨v, hm, _⟩ := h
  obtain ⟨c0, c1, c2, c3, c4, f0⟩ := ref_facts hm
  clear hm
  by_cases h1 : t = 1
  · subst h1
    have hr2 : s < 0 ∨ (0 ≤ s ∧ (R.B : Int) ≤ s) := by omega
    clear hr
    rcases hr2 with h2 | ⟨h2, h3⟩
    all_goals (
      go_enter Try.func16, Try.ntmps16
      go_wp2
      go_returns
      exact ⟨rfl, rfl⟩)
  · have h1b : (t == 1) = false := by rw [beq_eq_false_iff_ne]; exact h1
    have hr2 : t < 0 ∨ (0 ≤ t ∧ 1 < t) ∨ (0 ≤ t ∧ t ≤ 1 ∧ s < 0) ∨ (0 ≤ t ∧ t ≤ 1 ∧ 0 ≤ s ∧ (R.A : Int) ≤ s) := by omega
    clear hr h1
    rcases hr2 with h2 | ⟨h2, h3⟩ | ⟨h2, h3, h4⟩ | ⟨h2, h3, h4, h5⟩
    all_goals (
      go_enter Try.func16, Try.ntmps16
      go_wp2
      go_returns
      exact ⟨rfl, rfl⟩)
end
end Go.Proofs.Ytifbambalfifaaa
