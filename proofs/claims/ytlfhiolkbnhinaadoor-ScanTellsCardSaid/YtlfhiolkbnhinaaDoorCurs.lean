/- Cursors one behind the other: which slot, which next one. -/
import Derived.Test.YtlfhiolkbnhinaaDoorNext
namespace Go.Proofs.YtlfhiolkbnhinaaDoor

theorem cur_lt (k i : Nat) (hk : k ≤ 32) (hi : i < 2 ^ k) : turnN (i * 2 ^ (32 - k)) < 2 ^ k := by
  have hx : i * 2 ^ (32 - k) < 4294967296 := by
    have h1 : i * 2 ^ (32 - k) < 2 ^ k * 2 ^ (32 - k) := Nat.mul_lt_mul_of_pos_right hi (Nat.two_pow_pos _)
    rw [← Nat.pow_add, show k + (32 - k) = 32 by omega] at h1
    exact h1
  apply Nat.lt_pow_two_of_testBit
  intro j hj
  by_cases h32 : j < 32
  · rw [turn_bit _ _ h32, ← Nat.shiftLeft_eq, Nat.testBit_shiftLeft]
    have : ¬ (32 - k ≤ 31 - j) := by omega
    simp [this]
  · exact bit_none _ _ (turn_lt _ hx) h32
def curN (s i : Nat) : Nat := turnN (i * unitN s % 4294967296)
theorem cur_facts (s : Nat) (hs : isS (s : Int) = true) : ∃ u, unitN s = u ∧ s * u = 4294967296 ∧ 0 < u := by
  obtain ⟨k, hk, hk2, rfl⟩ := size_pow hs
  refine ⟨_, unit_pow k (by omega), ?_, Nat.two_pow_pos _⟩
  rw [← Nat.pow_add, show k + (32 - k) = 32 by omega]
theorem cur_in (s i : Nat) (hs : isS (s : Int) = true) (hi : i < s) : i * unitN s < 4294967296 := by
  obtain ⟨u, rfl, h1, h2⟩ := cur_facts s hs
  rw [← h1]
  exact Nat.mul_lt_mul_of_pos_right hi h2
theorem cur_slot (s i : Nat) (hs : isS (s : Int) = true) (hi : i < s) : curN s i < s := by
  have h1 := cur_in s i hs hi
  unfold curN
  rw [Nat.mod_eq_of_lt h1]
  obtain ⟨k, hk, hk2, rfl⟩ := size_pow hs
  rw [unit_pow k (by omega)]
  exact cur_lt k i (by omega) hi
theorem cur_inj (s i j : Nat) (hs : isS (s : Int) = true) (hi : i < s) (hj : j < s) (h : curN s i = curN s j) : i = j := by
  have h1 := cur_in s i hs hi
  have h2 := cur_in s j hs hj
  unfold curN at h
  rw [Nat.mod_eq_of_lt h1, Nat.mod_eq_of_lt h2] at h
  have h3 := congrArg turnN h
  rw [turn_turn _ h1, turn_turn _ h2] at h3
  obtain ⟨u, rfl, _, h4⟩ := cur_facts s hs
  exact Nat.eq_of_mul_eq_mul_right h4 h3
theorem cur_next (s i : Nat) (hs : isS (s : Int) = true) (hi : i < s) : nextN (curN s i) s = curN s (i + 1) := by
  have h1 := cur_in s i hs hi
  obtain ⟨u, hu, _, h4⟩ := cur_facts s hs
  unfold nextN curN upN
  rw [turn_turn _ (Nat.mod_lt _ (by decide)), Nat.mod_eq_of_lt h1, hu, Nat.mul_div_cancel _ h4]
theorem cur_end (s : Nat) (hs : isS (s : Int) = true) : curN s s = 0 := by
  obtain ⟨u, rfl, h3, h4⟩ := cur_facts s hs
  unfold curN
  rw [h3]
  exact turn_zero
theorem cur_zero (s : Nat) : curN s 0 = 0 := by unfold curN; rw [Nat.zero_mul]; exact turn_zero
theorem cur_pos (s i : Nat) (hs : isS (s : Int) = true) (hi : i < s) (h0 : 0 < i) : curN s i ≠ 0 := fun e => by
  have := cur_inj s i 0 hs hi (by omega) (by rw [e, cur_zero])
  omega

theorem part_lt (s a : Nat) (hs : isS (s : Int) = true) (ha : a < 4294967296) : turnN a / unitN s < s := by
  obtain ⟨u, rfl, h1, h2⟩ := cur_facts s hs
  rw [Nat.div_lt_iff_lt_mul h2, h1]
  exact turn_lt a ha
theorem cur_up (s a : Nat) : nextN a s = curN s (turnN a / unitN s + 1) := rfl
theorem cur_turn (s j : Nat) (hs : isS (s : Int) = true) (hj : j < s) : turnN (curN s j) / unitN s = j := by
  have h1 := cur_in s j hs hj
  obtain ⟨u, hu, _, h4⟩ := cur_facts s hs
  unfold curN
  rw [turn_turn _ (Nat.mod_lt _ (by decide)), Nat.mod_eq_of_lt h1, hu, Nat.mul_div_cancel _ h4]
theorem cur_small (s j : Nat) : curN s j < 4294967296 := turn_lt _ (Nat.mod_lt _ (by decide))
/-- A cursor's slot is that of its part. -/
theorem cur_of (s a : Nat) (hs : isS (s : Int) = true) (ha : a < 4294967296) : a % s = curN s (turnN a / unitN s) := by
  have h1 := part_lt s a hs ha
  have h2 := cur_turn s _ hs h1
  have h3 := cur_slot s _ hs h1
  obtain ⟨k, hk, hk2, rfl⟩ := size_pow hs
  rw [unit_pow k (by omega)] at *
  have h4 := (slot_part a (curN (2 ^ k) (turnN a / 2 ^ (32 - k))) k (by omega) ha (cur_small _ _)).2 h2.symm
  rw [h4, Nat.mod_eq_of_lt h3]
end Go.Proofs.YtlfhiolkbnhinaaDoor
