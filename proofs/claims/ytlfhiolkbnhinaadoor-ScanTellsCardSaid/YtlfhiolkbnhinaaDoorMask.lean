/- The digits that only the greater table has; where a stretch ends. -/
import Derived.Test.YtlfhiolkbnhinaaDoorStretch
namespace Go.Proofs.YtlfhiolkbnhinaaDoor
open Go.RowKit Go.Shelf

def maskN (G s : Nat) : Nat := (G - 1) &&& (4294967295 - (s - 1))
theorem bits_andNot32 (a b : Nat) (ha : a < 4294967296) (hb : b < 4294967296) : bits .andNot .u32 (a : Int) (b : Int) = ((a &&& (4294967295 - b) : Nat) : Int) := by
  have hx : a &&& (4294967295 - b) < 4294967296 := Nat.lt_of_le_of_lt Nat.and_le_left ha
  unfold bits
  show IntKind.u32.wrap ((BitVec.ofInt 32 (a : Int) &&& ~~~ BitVec.ofInt 32 (b : Int)).toNat : Int) = _
  rw [BitVec.ofInt_natCast, BitVec.ofInt_natCast, BitVec.toNat_and, BitVec.toNat_not, BitVec.toNat_ofNat, BitVec.toNat_ofNat, Nat.mod_eq_of_lt ha, Nat.mod_eq_of_lt hb, IntKind.wrap_u32]
  show ((a &&& (4294967295 - b) : Nat) : Int) % 4294967296 = _
  omega
theorem maskN_lt (G s : Nat) (h : G ≤ 65536) : maskN G s < 4294967296 := Nat.lt_of_le_of_lt Nat.and_le_left (by omega)
theorem mask_bits (a b i : Nat) (ha : a ≤ 16) (hb : b ≤ 16) : (maskN (2 ^ b) (2 ^ a)).testBit i = (decide (i < b) && !decide (i < a)) := by
  unfold maskN
  have h1 : 2 ^ a ≤ 2 ^ 16 := Nat.pow_le_pow_right (by decide) ha
  have h0 := Nat.two_pow_pos a
  have h2 : 4294967295 - (2 ^ a - 1) = 2 ^ 32 - ((2 ^ a - 1) + 1) := by omega
  rw [h2, Nat.testBit_and, Nat.testBit_two_pow_sub_one, Nat.testBit_two_pow_sub_succ (by omega), Nat.testBit_two_pow_sub_one]
  by_cases h3 : i < b
  · have : i < 32 := by omega
    simp [h3, this]
  · simp [h3]
theorem cur_bit (b j i : Nat) (hb : b ≤ 16) (hi : i < b) : (curN (2 ^ b) j).testBit i = j.testBit (b - 1 - i) := by
  unfold curN
  rw [unit_pow b (by omega), turn_bit _ _ (by omega), show (4294967296 : Nat) = 2 ^ 32 from rfl, Nat.testBit_mod_two_pow, ← Nat.shiftLeft_eq, Nat.testBit_shiftLeft]
  have h1 : 31 - i < 32 := by omega
  have h2 : 32 - b ≤ 31 - i := by omega
  rw [show 31 - i - (32 - b) = b - 1 - i by omega]
  simp [h1, h2]
theorem mask_zero (a b j : Nat) (hab : a ≤ b) (hb : b ≤ 16) : curN (2 ^ b) j &&& maskN (2 ^ b) (2 ^ a) = 0 ↔ j % 2 ^ (b - a) = 0 := by
  constructor
  · intro h
    apply Nat.eq_of_testBit_eq
    intro i
    rw [Nat.testBit_mod_two_pow, Nat.zero_testBit]
    by_cases hi : i < b - a
    · have h2 := congrArg (fun x => x.testBit (b - 1 - i)) h
      simp only [Nat.testBit_and, Nat.zero_testBit] at h2
      rw [mask_bits a b _ (by omega) hb, cur_bit b j _ hb (by omega), show b - 1 - (b - 1 - i) = i by omega] at h2
      have h3 : b - 1 - i < b := by omega
      have h4 : ¬ b - 1 - i < a := by omega
      simp only [h3, h4, decide_true, decide_false, Bool.not_false, Bool.and_true] at h2
      simp [h2]
    · simp [hi]
  · intro h
    apply Nat.eq_of_testBit_eq
    intro i
    rw [Nat.testBit_and, Nat.zero_testBit, mask_bits a b _ (by omega) hb]
    by_cases h3 : i < b
    · by_cases h4 : i < a
      · simp [h4]
      · rw [cur_bit b j _ hb h3]
        have h5 := congrArg (fun x => x.testBit (b - 1 - i)) h
        simp only [Nat.testBit_mod_two_pow, Nat.zero_testBit] at h5
        have h6 : b - 1 - i < b - a := by omega
        simp only [h6, decide_true, Bool.true_and] at h5
        simp [h5]
    · simp [h3]

/-- How often the lesser size goes into the greater one; how many slots of the greater table are told behind the first one. -/
def ratioN (G s : Nat) : Nat := G / s
def restN (G s q : Nat) : Nat := ratioN G s - 1 - q % ratioN G s
theorem great_facts (s G : Nat) (hs : isS (s : Int) = true) (hG : isS (G : Int) = true) (hle : s ≤ G) (P : Nat) (hP : P < 4294967296) :
    (P / unitN G) / ratioN G s = P / unitN s ∧ P / unitN G + restN G s (P / unitN G) < G ∧ (∀ i, i < restN G s (P / unitN G) → curN G (P / unitN G + i + 1) &&& maskN G s ≠ 0) ∧ curN G (P / unitN G + restN G s (P / unitN G) + 1) &&& maskN G s = 0 ∧
      curN G (P / unitN G + restN G s (P / unitN G) + 1) = curN s (P / unitN s + 1) ∧ 0 < ratioN G s ∧ P / unitN G + restN G s (P / unitN G) + 1 = (P / unitN s + 1) * ratioN G s := by
  obtain ⟨a, ha, ha2, rfl⟩ := size_pow hs
  obtain ⟨b, hb, hb2, rfl⟩ := size_pow hG
  have hab : a ≤ b := (Nat.pow_le_pow_iff_right (by decide)).1 hle
  have hr : ratioN (2 ^ b) (2 ^ a) = 2 ^ (b - a) := by unfold ratioN; rw [Nat.pow_div hab (by decide)]
  have hrp : 0 < 2 ^ (b - a) := Nat.two_pow_pos _
  have hu : unitN (2 ^ a) = unitN (2 ^ b) * 2 ^ (b - a) := by rw [unit_pow a (by omega), unit_pow b (by omega), ← Nat.pow_add]; congr 1; omega
  have hup : 0 < unitN (2 ^ b) := by rw [unit_pow b (by omega)]; exact Nat.two_pow_pos _
  have hq : P / unitN (2 ^ b) < 2 ^ b := by
    have : turnN (turnN P) = P := turn_turn P hP
    have h2 := part_lt (2 ^ b) (turnN P) hG (turn_lt P hP)
    rwa [this] at h2
  have hdiv : (P / unitN (2 ^ b)) / 2 ^ (b - a) = P / unitN (2 ^ a) := by rw [Nat.div_div_eq_div_mul, hu]
  generalize hQ : P / unitN (2 ^ b) = q at *
  unfold restN
  rw [hr]
  have h1 : q = 2 ^ (b - a) * (q / 2 ^ (b - a)) + q % 2 ^ (b - a) := (Nat.div_add_mod q _).symm
  have h2 : q % 2 ^ (b - a) < 2 ^ (b - a) := Nat.mod_lt _ hrp
  have hend : q + (2 ^ (b - a) - 1 - q % 2 ^ (b - a)) + 1 = (P / unitN (2 ^ a) + 1) * 2 ^ (b - a) := by
    rw [← hdiv, Nat.add_mul, Nat.one_mul, Nat.mul_comm (q / 2 ^ (b - a))]
    omega
  have hqs : P / unitN (2 ^ a) < 2 ^ a := by
    have : turnN (turnN P) = P := turn_turn P hP
    have h2 := part_lt (2 ^ a) (turnN P) hs (turn_lt P hP)
    rwa [this] at h2
  have hlim : (P / unitN (2 ^ a) + 1) * 2 ^ (b - a) ≤ 2 ^ b := by
    have : 2 ^ b = 2 ^ a * 2 ^ (b - a) := by rw [← Nat.pow_add]; congr 1; omega
    rw [this]
    exact Nat.mul_le_mul_right _ hqs
  refine ⟨hdiv, by omega, fun i hi h3 => ?_, ?_, ?_, hrp, hend⟩
  · have h4 := (mask_zero a b _ hab hb2).1 h3
    have h5 : (q + i + 1) % 2 ^ (b - a) = q % 2 ^ (b - a) + i + 1 := by
      conv => lhs; rw [h1]
      rw [show 2 ^ (b - a) * (q / 2 ^ (b - a)) + q % 2 ^ (b - a) + i + 1 = (q % 2 ^ (b - a) + i + 1) + 2 ^ (b - a) * (q / 2 ^ (b - a)) by omega, Nat.add_mul_mod_self_left]
      exact Nat.mod_eq_of_lt (by omega)
    omega
  · refine (mask_zero a b _ hab hb2).2 ?_
    rw [hend]
    exact Nat.mul_mod_left _ _
  · rw [hend]
    unfold curN
    rw [hu, Nat.mul_assoc, Nat.mul_comm (2 ^ (b - a)) (unitN (2 ^ b))]
end Go.Proofs.YtlfhiolkbnhinaaDoor
