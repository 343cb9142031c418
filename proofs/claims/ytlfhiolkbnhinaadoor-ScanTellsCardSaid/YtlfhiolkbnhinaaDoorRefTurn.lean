/- The document's own answers: Turn. -/
import Derived.Test.YtlfhiolkbnhinaaDoorTurn
namespace Go.Proofs.YtlfhiolkbnhinaaDoor
open Go.RowKit Go.Shelf
attribute [local go_sem] Oper.semAt_some

/-- A number's first digits, from the last one on. -/
def revN (n : Nat) : Nat → Nat
  | 0 => 0
  | i + 1 => 2 * revN n i + n / 2 ^ i % 2
theorem revN_lt (n : Nat) : ∀ i, revN n i < 2 ^ i
  | 0 => by simp [revN]
  | i + 1 => by have := revN_lt n i; unfold revN; rw [Nat.pow_succ]; omega
theorem revN_bit (n : Nat) : ∀ i j, (revN n i).testBit j = (decide (j < i) && n.testBit (i - 1 - j))
  | 0, j => by simp [revN]
  | i + 1, 0 => by
    unfold revN
    rw [Nat.testBit_zero]
    have : (2 * revN n i + n / 2 ^ i % 2) % 2 = n / 2 ^ i % 2 := by omega
    rw [this]
    simp [Nat.testBit_eq_decide_div_mod_eq]
  | i + 1, j + 1 => by
    unfold revN
    rw [Nat.testBit_succ, show (2 * revN n i + n / 2 ^ i % 2) / 2 = revN n i by omega, revN_bit n i j]
    congr 1
    · simp
    · congr 1
      omega

set_option maxHeartbeats 2000000 in
theorem refTurn_any (n : Nat) (hn : n < 4294967296) (w : World) :
    Calls Tryd.prog 55 #[.int .u32 n] w fun e w' => e = .returned (.int .u32 (revN n 32)) ∧ w' = w := by
  go_enter Tryd.func55, Tryd.ntmps55
  go_wp2
  go_loopw [0, 3, 4] (fun m h j wr => ∃ (i : Nat), j = .int .i64 i ∧ i ≤ 32 ∧ m = .int .u32 ((n / 2 ^ i : Nat) : Int) ∧ h = .int .u32 (revN n i) ∧ wr = w)
    (fun _ _ j _ => 32 - (intOf j).toNat)
  case atStart => exact ⟨0, rfl, by omega, by simp, rfl, rfl⟩
  case round =>
    obtain ⟨i, rfl, hi, rfl, rfl, rfl⟩ := hrel
    by_cases hlt : i < 32
    · have hq : n / 2 ^ (i + 1) = n / 2 ^ i / 2 := by rw [Nat.pow_succ, Nat.div_div_eq_div_mul]
      have hr : revN n (i + 1) = 2 * revN n i + n / 2 ^ i % 2 := rfl
      have hml : n / 2 ^ i < 4294967296 := Nat.lt_of_le_of_lt (Nat.div_le_self _ _) hn
      have hrl : revN n i < 2147483648 := Nat.lt_of_lt_of_le (revN_lt n i) (show 2 ^ i ≤ 2 ^ 31 from Nat.pow_le_pow_right (by decide) (by omega))
      have HQ := Lib.hid hq
      have HR := Lib.hid hr
      clear hq hr
      generalize n / 2 ^ i = m at *
      generalize revN n i = h at *
      go_wp2
      refine ⟨⟨i + 1, by go_num, hlt, ?_, ?_, trivial⟩, by simp [intOf]; omega⟩
      · rw [HQ.out]; rfl
      · rw [HR.out]; rfl
    · obtain rfl : i = 32 := by omega
      go_wp2
      go_ret
      exact ⟨rfl, rfl⟩
end Go.Proofs.YtlfhiolkbnhinaaDoor
