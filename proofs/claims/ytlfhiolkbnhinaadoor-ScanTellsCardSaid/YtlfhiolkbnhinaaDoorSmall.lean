/- Shapes stay small; what moving does to the lesser size. -/
import Derived.Test.YtlfhiolkbnhinaaDoorFront
namespace Go.Proofs.YtlfhiolkbnhinaaDoor

theorem size_says (n : Int) : (n ≤ sizeS n ∨ sizeS n = 65536) ∧ (sizeS n = 4 ∨ ((sizeS n / 2 : Nat) : Int) < n) := by
  have key : ∀ i, i ≤ 14 → (i = 0 ∨ ((sizeN (i - 1) : Nat) : Int) < n) → (n ≤ fit n (sizeL.drop i) ∨ fit n (sizeL.drop i) = 65536) ∧ (fit n (sizeL.drop i) = 4 ∨ ((fit n (sizeL.drop i) / 2 : Nat) : Int) < n) := by
    intro i hi
    obtain ⟨d, hd⟩ : ∃ d, d = 14 - i := ⟨_, rfl⟩
    induction d generalizing i with
    | zero =>
      obtain rfl : i = 14 := by omega
      intro h
      rw [fit_last]
      have : sizeN 13 = 32768 := by decide +kernel
      rcases h with h | h
      · cases h
      · rw [this] at h
        exact ⟨.inr rfl, .inr h⟩
    | succ d ih =>
      intro h
      obtain ⟨hx, h1, h2, h3⟩ := sizeN_facts ⟨i, by omega⟩
      simp only at hx h1 h2 h3
      by_cases hn : n ≤ ((sizeN i : Nat) : Int)
      · rw [fit_here n i _ hx hn]
        refine ⟨.inl hn, ?_⟩
        rcases h with rfl | h
        · exact .inl (by decide +kernel)
        · by_cases h0 : i = 0
          · subst h0; exact .inl (by decide +kernel)
          · have h4 := (sizeN_facts ⟨i - 1, by omega⟩).2.2.2
            simp only at h4
            rw [show i - 1 + 1 = i by omega] at h4
            right
            rw [h4, Nat.mul_div_cancel_left _ (by decide)]
            exact h
      · rw [fit_on n i _ hx hn]
        exact ih (i + 1) (by omega) (by omega) (.inr (by rw [Nat.add_sub_cancel]; omega))
  exact key 0 (by omega) (.inl rfl)

theorem size_small (n : Nat) (h : n ≤ 512) : sizeS (n : Int) ≤ 1024 := by
  rcases (size_says (n : Int)).2 with h1 | h1 <;> omega
theorem small_step {h : Sh} (hs : h.small) : h.step1.small := by
  unfold Sh.step1
  split
  · exact hs
  · split
    · exact ⟨hs.2, by show 0 ≤ 1024; omega⟩
    · exact ⟨hs.1, hs.2⟩
theorem small_steps {h : Sh} (hs : h.small) : ∀ k, (Sh.steps k h).small
  | 0 => hs
  | k + 1 => small_step (small_steps hs k)
theorem small_grown {h : Sh} (hs : h.small) (hn : h.n ≤ 256) : h.grown.small := by
  unfold Sh.grown
  split
  · exact ⟨hs.1, size_small (2 * h.n) (by omega)⟩
  · exact hs
theorem small_shrunk {h : Sh} (hs : h.small) (hn : h.n ≤ 256) : h.shrunk.small := by
  unfold Sh.shrunk
  split
  · exact ⟨hs.1, size_small h.n (by omega)⟩
  · exact hs
theorem small_set {h : Sh} (hs : h.small) (hn : h.n ≤ 256) (is : Bool) : (h.set is).small := by
  cases is with
  | true => exact small_step hs
  | false => exact (show h.step1.grown.small from small_grown (small_step hs) (by rw [step1_n]; exact hn))
theorem small_del {h : Sh} (hs : h.small) (hn : h.n ≤ 256) (is : Bool) : (h.del is).small := by
  cases is with
  | true => exact small_shrunk (h := h.step1.fewer) (small_step hs) (by show h.step1.n - 1 ≤ 256; rw [step1_n]; omega)
  | false => exact small_step hs
theorem least_step (h : Sh) : h.least ≤ h.step1.least := by
  unfold Sh.step1
  split
  · exact Nat.le_refl _
  · split
    · show (smallT h.A h.B).2 ≤ (smallT h.B 0).2
      have h3 : smallT h.B 0 = (0, h.B) := by unfold smallT; rw [if_pos (.inl rfl)]
      rw [h3]
      unfold smallT
      split <;> simp only <;> omega
    · exact Nat.le_refl _
theorem least_steps (h : Sh) : ∀ k, h.least ≤ (Sh.steps k h).least
  | 0 => Nat.le_refl _
  | k + 1 => Nat.le_trans (least_steps h k) (least_step _)
end Go.Proofs.YtlfhiolkbnhinaaDoor
