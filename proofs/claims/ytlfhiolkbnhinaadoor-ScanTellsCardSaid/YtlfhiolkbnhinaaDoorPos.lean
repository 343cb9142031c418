/- Turned numbers as positions; the next cursor. -/
import Derived.Test.YtlfhiolkbnhinaaDoorRefTurn
import Derived.Test.YtlfhiolkbnhinaaDoorRefs
namespace Go.Proofs.YtlfhiolkbnhinaaDoor

/-! Turned numbers. -/
theorem swap_bit (k m n j : Nat) (h : (decide (k ≤ j) && m.testBit (j - k)) = !m.testBit j) :
    (swapN (2 ^ k) m n).testBit j = n.testBit (if m.testBit j then j + k else j - k) := by
  unfold swapN
  rw [Nat.testBit_or, Nat.testBit_and, Nat.testBit_div_two_pow, ← Nat.shiftLeft_eq, Nat.testBit_shiftLeft, Nat.testBit_and]
  cases hm : m.testBit j with
  | true =>
    rw [hm] at h
    by_cases hk : k ≤ j
    · simp [hk] at h
      simp [h]
    · simp [hk]
  | false =>
    rw [hm] at h
    simp at h
    simp [h]

def partner (k m j : Nat) : Nat := if m.testBit j then j + k else j - k
theorem swaps_ok : ∀ j : Fin 32, (decide (1 ≤ j.val) && (1431655765).testBit (j.val - 1)) = !(1431655765).testBit j.val ∧
    (decide (2 ≤ j.val) && (858993459).testBit (j.val - 2)) = !(858993459).testBit j.val ∧
    (decide (4 ≤ j.val) && (252645135).testBit (j.val - 4)) = !(252645135).testBit j.val ∧
    (decide (8 ≤ j.val) && (16711935).testBit (j.val - 8)) = !(16711935).testBit j.val ∧
    (decide (16 ≤ j.val) && (65535).testBit (j.val - 16)) = !(65535).testBit j.val := by decide +kernel
theorem partners : ∀ j : Fin 32, partner 16 65535 j.val < 32 ∧ partner 8 16711935 (partner 16 65535 j.val) < 32 ∧ partner 4 252645135 (partner 8 16711935 (partner 16 65535 j.val)) < 32 ∧
    partner 2 858993459 (partner 4 252645135 (partner 8 16711935 (partner 16 65535 j.val))) < 32 ∧
    partner 1 1431655765 (partner 2 858993459 (partner 4 252645135 (partner 8 16711935 (partner 16 65535 j.val)))) = 31 - j.val := by decide +kernel

theorem turn_bit (n j : Nat) (hj : j < 32) : (turnN n).testBit j = n.testBit (31 - j) := by
  obtain ⟨l5, l4, l3, l2, l1⟩ := partners ⟨j, hj⟩
  simp only at l5 l4 l3 l2 l1
  have s5 := swap_bit 16 65535 (swapTo 4 n) j (swaps_ok ⟨j, hj⟩).2.2.2.2
  have s4 := swap_bit 8 16711935 (swapTo 3 n) _ (swaps_ok ⟨_, l5⟩).2.2.2.1
  have s3 := swap_bit 4 252645135 (swapTo 2 n) _ (swaps_ok ⟨_, l4⟩).2.2.1
  have s2 := swap_bit 2 858993459 (swapTo 1 n) _ (swaps_ok ⟨_, l3⟩).2.1
  have s1 := swap_bit 1 1431655765 (swapTo 0 n) _ (swaps_ok ⟨_, l2⟩).1
  rw [← l1]
  unfold turnN
  rw [swapTo_step4]
  refine s5.trans ?_
  rw [swapTo_step3]
  refine s4.trans ?_
  rw [swapTo_step2]
  refine s3.trans ?_
  rw [swapTo_step1]
  refine s2.trans ?_
  rw [swapTo_step0]
  exact s1

theorem turn_lt (n : Nat) (hn : n < 4294967296) : turnN n < 4294967296 := by
  have h1 := swapN_lt 2 1431655765 _ hn (by decide)
  have h2 := swapN_lt 4 858993459 _ h1 (by decide)
  have h3 := swapN_lt 16 252645135 _ h2 (by decide)
  have h4 := swapN_lt 256 16711935 _ h3 (by decide)
  have h5 := swapN_lt 65536 65535 _ h4 (by decide)
  exact h5
theorem bit_none (n j : Nat) (hn : n < 4294967296) (hj : ¬ j < 32) : n.testBit j = false :=
  Nat.testBit_lt_two_pow (Nat.lt_of_lt_of_le hn (show 2 ^ 32 ≤ 2 ^ j from Nat.pow_le_pow_right (by decide) (by omega)))
theorem turn_rev (n : Nat) (hn : n < 4294967296) : turnN n = revN n 32 := by
  apply Nat.eq_of_testBit_eq
  intro j
  by_cases hj : j < 32
  · rw [turn_bit n j hj, revN_bit]
    simp [hj]
  · rw [bit_none _ j (turn_lt n hn) hj, bit_none _ j (revN_lt n 32) hj]
theorem turn_turn (n : Nat) (hn : n < 4294967296) : turnN (turnN n) = n := by
  apply Nat.eq_of_testBit_eq
  intro j
  by_cases hj : j < 32
  · rw [turn_bit _ j hj, turn_bit _ _ (by omega)]
    congr 1
    omega
  · rw [bit_none _ j (turn_lt _ (turn_lt n hn)) hj, bit_none _ j hn hj]
theorem turn_zero : turnN 0 = 0 := by decide +kernel
theorem turn_eq_zero {n : Nat} (hn : n < 4294967296) (h : turnN n = 0) : n = 0 := by rw [← turn_turn n hn, h, turn_zero]

/-! Positions. A cursor's position is its turned number; a size divides the positions into as many parts. -/
theorem size_pow {s : Nat} (h : isS (s : Int) = true) : ∃ k, 2 ≤ k ∧ k ≤ 16 ∧ s = 2 ^ k := by
  obtain ⟨x, hx, he⟩ := (isS_iff _).1 h
  have e : x = s := by omega
  subst e
  have : ∀ x ∈ sizeL, x = 2 ^ 2 ∨ x = 2 ^ 3 ∨ x = 2 ^ 4 ∨ x = 2 ^ 5 ∨ x = 2 ^ 6 ∨ x = 2 ^ 7 ∨ x = 2 ^ 8 ∨ x = 2 ^ 9 ∨ x = 2 ^ 10 ∨ x = 2 ^ 11 ∨ x = 2 ^ 12 ∨ x = 2 ^ 13 ∨ x = 2 ^ 14 ∨ x = 2 ^ 15 ∨ x = 2 ^ 16 := by decide +kernel
  rcases this x hx with h | h | h | h | h | h | h | h | h | h | h | h | h | h | h
  all_goals exact ⟨_, by decide, by decide, h⟩

/-- How long a part is. -/
def unitN (s : Nat) : Nat := 4294967296 / s
theorem unit_pow (k : Nat) (hk : k ≤ 32) : unitN (2 ^ k) = 2 ^ (32 - k) := by
  unfold unitN
  rw [show 4294967296 = 2 ^ 32 from rfl, Nat.pow_div hk (by decide)]
/-- The position of the next cursor. -/
def upN (s P : Nat) : Nat := (P / unitN s + 1) * unitN s % 4294967296
def nextN (c s : Nat) : Nat := turnN (upN s (turnN c))
theorem upN_lt (s P : Nat) : upN s P < 4294967296 := Nat.mod_lt _ (by decide)
theorem nextN_lt (c s : Nat) : nextN c s < 4294967296 := turn_lt _ (upN_lt _ _)
theorem turn_next (c s : Nat) : turnN (nextN c s) = upN s (turnN c) := turn_turn _ (upN_lt _ _)

theorem mask_bit (k j : Nat) (hk : k ≤ 32) : (4294967296 - 2 ^ k : Nat).testBit j = (decide (k ≤ j) && decide (j < 32)) := by
  have h : (4294967296 - 2 ^ k : Nat) = (2 ^ (32 - k) - 1) <<< k := by
    rw [Nat.shiftLeft_eq, Nat.sub_mul, Nat.one_mul, ← Nat.pow_add, show 32 - k + k = 32 by omega]
  rw [h, Nat.testBit_shiftLeft, Nat.testBit_two_pow_sub_one]
  by_cases h1 : k ≤ j
  · by_cases h2 : j < 32
    · simp [h1, h2]; omega
    · simp [h1, h2]; omega
  · simp [h1]
/-- A cursor whose digits above the size's are ones, turned. -/
theorem turn_mask (c k : Nat) (hc : c < 4294967296) (hk : k ≤ 32) : turnN (c ||| (4294967296 - 2 ^ k)) = turnN c / 2 ^ (32 - k) * 2 ^ (32 - k) + (2 ^ (32 - k) - 1) := by
  have hp : 0 < 2 ^ (32 - k) := Nat.two_pow_pos _
  have hm : 4294967296 - 2 ^ k < 4294967296 := by have := Nat.two_pow_pos k; omega
  have hlt := turn_lt _ (or_lt32 hc hm)
  apply Nat.eq_of_testBit_eq
  intro j
  rw [Nat.mul_comm, Nat.testBit_two_pow_mul_add _ (by omega)]
  by_cases hj : j < 32
  · rw [turn_bit _ j hj, Nat.testBit_or, mask_bit k _ hk]
    by_cases h1 : j < 32 - k
    · rw [if_pos h1, Nat.testBit_two_pow_sub_one]
      have : k ≤ 31 - j := by omega
      simp [h1, this]
      omega
    · rw [if_neg h1, Nat.testBit_div_two_pow, show j - (32 - k) + (32 - k) = j by omega, turn_bit c j hj]
      have : ¬ k ≤ 31 - j := by omega
      simp [this]
  · rw [bit_none _ j hlt hj]
    by_cases h1 : j < 32 - k
    · omega
    · rw [if_neg h1, Nat.testBit_div_two_pow, show j - (32 - k) + (32 - k) = j by omega, bit_none _ j (turn_lt c hc) hj]
theorem next_val (c k : Nat) (hc : c < 4294967296) (hk : k ≤ 32) : turnN ((turnN (c ||| (4294967296 - 2 ^ k)) + 1) % 4294967296) = nextN c (2 ^ k) := by
  have hp : 0 < 2 ^ (32 - k) := Nat.two_pow_pos _
  unfold nextN upN
  rw [unit_pow k hk, turn_mask c k hc hk, Nat.add_mul, Nat.one_mul, Nat.add_assoc, Nat.sub_add_cancel hp]

/-- Two numbers are in one slot if their turned ones are in one part. -/
theorem slot_part (a b k : Nat) (hk : k ≤ 32) (ha : a < 4294967296) (hb : b < 4294967296) : a % 2 ^ k = b % 2 ^ k ↔ turnN a / 2 ^ (32 - k) = turnN b / 2 ^ (32 - k) := by
  constructor
  · intro h
    apply Nat.eq_of_testBit_eq
    intro j
    rw [Nat.testBit_div_two_pow, Nat.testBit_div_two_pow]
    by_cases hj : j + (32 - k) < 32
    · rw [turn_bit _ _ hj, turn_bit _ _ hj]
      have h2 := congrArg (fun x => x.testBit (31 - (j + (32 - k)))) h
      simp only [Nat.testBit_mod_two_pow] at h2
      have h3 : 31 - (j + (32 - k)) < k := by omega
      simpa [h3] using h2
    · rw [bit_none _ _ (turn_lt a ha) hj, bit_none _ _ (turn_lt b hb) hj]
  · intro h
    apply Nat.eq_of_testBit_eq
    intro j
    rw [Nat.testBit_mod_two_pow, Nat.testBit_mod_two_pow]
    by_cases hj : j < k
    · have h2 := congrArg (fun x => x.testBit (31 - j - (32 - k))) h
      simp only [Nat.testBit_div_two_pow] at h2
      rw [show 31 - j - (32 - k) + (32 - k) = 31 - j by omega, turn_bit _ _ (by omega), turn_bit _ _ (by omega), show 31 - (31 - j) = j by omega] at h2
      rw [h2]
    · simp [hj]
end Go.Proofs.YtlfhiolkbnhinaaDoor
