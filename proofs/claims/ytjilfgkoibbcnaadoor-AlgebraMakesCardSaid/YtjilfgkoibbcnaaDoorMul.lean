/- Products of two numbers, the program's and the reference's. -/
import Derived.Test.YtjilfgkoibbcnaaDoorSum
import Derived.Test.YtjilfgkoibbcnaaDoorShelf
namespace Go.Proofs.YtjilfgkoibbcnaaDoor
open Go.RowKit
attribute [local go_sem] Oper.semAt_some

set_option maxHeartbeats 1000000 in
theorem narrow_wide (s : Int) (h1 : -170141183460469231731687303715884105728 ≤ s) (h2 : s < 170141183460469231731687303715884105728) (w : World) :
    Calls Tryd.prog 61 #[.agg #[.int .i64 (hiN s), .int .u64 (loN s)]] w fun e w' => e = .returned (.tuple #[.int .i64 (sumN s 0), .int .i64 (sumE s 0)]) ∧ Below w.heap.size w w' := by
  by_cases hok : -9223372036854775808 ≤ s ∧ s ≤ 9223372036854775807
  · have e1 : wrap64 (loN s) = s := by unfold wrap64 loN; omega
    have e2 : (hiN s != s / 9223372036854775808) = false := by unfold hiN; simp; omega
    have e3 : sumN s 0 = s := by unfold sumN sumOk; rw [if_pos (by simp; omega)]; omega
    have e4 : sumE s 0 = 0 := by unfold sumE sumOk; rw [if_pos (by simp; omega)]
    rw [e3, e4]
    generalize hiN s = hi at *
    generalize loN s = lo at *
    clear e3 e4
    go_enter Tryd.func61, Tryd.ntmps61
    go_wp2
    go_ret2
    exact ⟨ret_pair e1 rfl, (Below.refl _ _).alloc (Nat.le_refl _) _⟩
  · have e2 : (hiN s != wrap64 (loN s) / 9223372036854775808) = true := by unfold hiN loN wrap64; simp; omega
    have e3 : sumN s 0 = 0 := by unfold sumN sumOk; rw [if_neg (by simp; omega)]
    have e4 : sumE s 0 = 11 := by unfold sumE sumOk; rw [if_neg (by simp; omega)]
    rw [e3, e4]
    generalize hiN s = hi at *
    generalize loN s = lo at *
    clear e3 e4
    go_enter Tryd.func61, Tryd.ntmps61
    go_wp2
    go_ret2
    exact ⟨rfl, (Below.refl _ _).alloc (Nat.le_refl _) _⟩

theorem prod_bound {a b : Int} (ha : I64 a) (hb : I64 b) : -85070591730234615865843651857942052864 ≤ a * b ∧ a * b ≤ 85070591730234615865843651857942052864 := by
  obtain ⟨a1, a2⟩ := ha
  obtain ⟨b1, b2⟩ := hb
  have h : (a * b).natAbs ≤ 9223372036854775808 * 9223372036854775808 := by
    rw [Int.natAbs_mul]
    exact Nat.mul_le_mul (by omega) (by omega)
  omega
def wordN (v : Int) : Nat := (word v).toNat
theorem wordN_of {v : Int} (h : I64 v) : (wordN v : Int) = word v := by unfold wordN; have := word_pos h; omega
theorem wordN_lt {v : Int} (h : I64 v) : wordN v < 18446744073709551616 := by
  have h2 := wordN_of h
  obtain ⟨_, _⟩ := h
  unfold word at h2
  split at h2 <;> omega
/-- What a number below nought counts too much. -/
def negOf (a b : Int) : Int := if a < 0 then b else 0
theorem word_eq (a : Int) : word a = a + negOf a 18446744073709551616 := by unfold word negOf; split <;> omega
theorem mul_words (a b : Int) : ∃ t : Int, word a * word b = a * b + 18446744073709551616 * (negOf a b + negOf b a) + 340282366920938463463374607431768211456 * t := by
  unfold word negOf
  by_cases h1 : a < 0 <;> by_cases h2 : b < 0
  · refine ⟨1, ?_⟩
    rw [if_pos h1, if_pos h2, if_pos h1, if_pos h2, Int.add_mul, Int.mul_add, Int.mul_add]
    omega
  · refine ⟨0, ?_⟩
    rw [if_pos h1, if_neg h2, if_pos h1, if_neg h2, Int.add_mul]
    omega
  · refine ⟨0, ?_⟩
    rw [if_neg h1, if_pos h2, if_neg h1, if_pos h2, Int.mul_add]
    omega
  · refine ⟨0, ?_⟩
    rw [if_neg h1, if_neg h2, if_neg h1, if_neg h2]
    omega
theorem words_lo {a b : Int} (ha : I64 a) (hb : I64 b) : (((wordN a * wordN b % 18446744073709551616 : Nat)) : Int) = loN (a * b) := by
  obtain ⟨t, ht⟩ := mul_words a b
  have h : ((wordN a * wordN b : Nat) : Int) = word a * word b := by rw [Int.natCast_mul, wordN_of ha, wordN_of hb]
  generalize a * b = p at *
  unfold loN
  omega
theorem words_hi {a b : Int} (ha : I64 a) (hb : I64 b) : ∃ t : Int, (((wordN a * wordN b / 18446744073709551616 : Nat)) : Int) = hiN (a * b) + negOf a b + negOf b a + 18446744073709551616 * t := by
  obtain ⟨t, ht⟩ := mul_words a b
  have h : ((wordN a * wordN b : Nat) : Int) = word a * word b := by rw [Int.natCast_mul, wordN_of ha, wordN_of hb]
  refine ⟨t, ?_⟩
  generalize a * b = p at *
  generalize negOf a b = q at *
  generalize negOf b a = r at *
  unfold hiN
  omega
theorem negOf_in {a b : Int} (h : I64 b) : I64 (negOf a b) := by
  obtain ⟨_, _⟩ := h
  unfold negOf I64
  split <;> omega
theorem wrap_sub {x h q r t : Int} (e : x = h + q + r + 18446744073709551616 * t) (hh : -9223372036854775808 ≤ h ∧ h ≤ 9223372036854775807) : wrap64 (wrap64 (wrap64 x - q) - r) = h := by
  unfold wrap64
  omega
theorem and_ones (b : Int) (hb : I64 b) : bits .and .i64 (-1) b = b := by
  obtain ⟨b1, b2⟩ := hb
  show IntKind.i64.wrap (((BitVec.ofInt 64 (-1)) &&& (BitVec.ofInt 64 b)).toNat : Int) = b
  have h1 : BitVec.ofInt 64 (-1) = BitVec.allOnes 64 := by decide
  rw [h1, BitVec.allOnes_and, BitVec.toNat_ofInt, IntKind.wrap_i64]
  omega
theorem and_none (b : Int) : bits .and .i64 0 b = 0 := by
  show IntKind.i64.wrap (((BitVec.ofInt 64 0) &&& (BitVec.ofInt 64 b)).toNat : Int) = 0
  have h1 : BitVec.ofInt 64 0 = 0#64 := by decide
  rw [h1, BitVec.zero_and]
  rfl
theorem and_sgn {a b : Int} (ha : I64 a) (hb : I64 b) : bits .and .i64 (a / 9223372036854775808) b = negOf a b := by
  rw [sgn_of ha]
  unfold sgn negOf
  by_cases h : a < 0
  · rw [if_pos h, if_pos h]; exact and_ones b hb
  · rw [if_neg h, if_neg h]; exact and_none b

set_option maxHeartbeats 1000000 in
theorem product_any (a b : Int) (ha : I64 a) (hb : I64 b) (w : World) :
    Calls Tryd.prog 62 #[.int .i64 a, .int .i64 b] w fun e w' => e = .returned (.agg #[.int .i64 (hiN (a * b)), .int .u64 (loN (a * b))]) ∧ Below w.heap.size w w' := by
  have HM := fun W => Lib.hid (Tryd.bits_Mul64 (wordN a) (wordN b) (wordN_lt ha) (wordN_lt hb) W)
  have e1 := word_of ha
  have e2 := word_of hb
  rw [← wordN_of ha] at e1
  rw [← wordN_of hb] at e2
  have e3 := and_sgn ha hb
  have e4 := and_sgn hb ha
  obtain ⟨t, ht⟩ := words_hi ha hb
  have hp := prod_bound ha hb
  have HE := Lib.hid (wrap_sub (x := ((wordN a * wordN b / 18446744073709551616 : Nat) : Int)) ht (by unfold hiN; omega))
  rw [words_lo ha hb] at HM
  generalize hiN (a * b) = hi at *
  generalize loN (a * b) = lo at *
  generalize negOf a b = q at *
  generalize negOf b a = r at *
  generalize ((wordN a * wordN b / 18446744073709551616 : Nat) : Int) = x at *
  clear ht hp
  go_enter Tryd.func62, Tryd.ntmps62
  go_wp2_with fail
  refine (HM _).out.mono ?_
  rintro e w1 ⟨rfl, rfl⟩
  go_wp2_with fail
  rw [HE.out]
  exact bodyPost_ret (v := .agg #[.int .i64 hi, .int .u64 lo]) (by simp [results, Tryd.results62, go_sem]) rfl ⟨rfl, alloc_below _ _⟩

set_option maxHeartbeats 1000000 in
/-- ints.Mul. -/
theorem mul_any (a b : Int) (ha : I64 a) (hb : I64 b) (w : World) : Calls Tryd.prog 53 #[.int .i64 a, .int .i64 b] w fun e w' => e = .returned (.tuple #[.int .i64 (sumN (a * b) 0), .int .i64 (sumE (a * b) 0)]) ∧ Below w.heap.size w w' := by
  have hp := prod_bound ha hb
  have HN := Lib.hid (narrow_wide (a * b) (by omega) (by omega))
  have HS := Lib.hid (product_any a b ha hb)
  generalize hiN (a * b) = hi at *
  generalize loN (a * b) = lo at *
  generalize sumN (a * b) 0 = n at *
  generalize sumE (a * b) 0 = m at *
  clear hp
  go_enter Tryd.func53, Tryd.ntmps53
  go_wp2_with fail
  refine (HS.out _).mono ?_
  rintro e w1 ⟨rfl, hb1⟩
  go_wp2_with fail
  refine (HN.out _).mono ?_
  rintro e w2 ⟨rfl, hb2⟩
  go_wp2_with fail
  go_ret2
  exact ⟨rfl, hb1.trans (hb2.mono hb1.size)⟩

theorem quo_iff {a b : Int} (hb : I64 b) (h0 : b ≠ 0) : (wrap64 (a * b)).tdiv b = a ↔ (-9223372036854775808 ≤ a * b ∧ a * b ≤ 9223372036854775807) := by
  constructor
  · intro h
    obtain ⟨k, hk⟩ : ∃ k : Int, wrap64 (a * b) = a * b + 18446744073709551616 * k := by
      unfold wrap64
      refine ⟨-((a * b + 9223372036854775808) / 18446744073709551616), ?_⟩
      omega
    have h1 := Int.mul_tdiv_add_tmod (wrap64 (a * b)) b
    rw [h, hk, Int.mul_comm b a] at h1
    have h2 : ((a * b + 18446744073709551616 * k).tmod b).natAbs < b.natAbs := by
      rw [Int.natAbs_tmod]
      exact Nat.mod_lt _ (by omega)
    obtain ⟨b1, b2⟩ := hb
    have hk0 : k = 0 := by omega
    have h3 : wrap64 (a * b) = a * b := by rw [hk, hk0]; omega
    have h4 : I64 (wrap64 (a * b)) := by unfold wrap64 I64; omega
    rw [h3] at h4
    exact h4
  · rintro ⟨h1, h2⟩
    rw [IntWalk.wrap64_in _ (by omega)]
    exact Int.mul_tdiv_cancel a h0
theorem quo_in {a b : Int} (ha : I64 a) (hb : I64 b) (h0 : b ≠ 0) (hs : ¬ (b = -1 ∧ a = -9223372036854775808)) : wrap64 ((wrap64 (a * b)).tdiv b) = (wrap64 (a * b)).tdiv b := by
  have hn : I64 (wrap64 (a * b)) := by unfold wrap64 I64; omega
  obtain ⟨a1, a2⟩ := ha
  by_cases h1 : b = -1
  · subst h1
    have : wrap64 (a * -1) = -a := IntWalk.wrap64_in _ (by omega) |>.trans (by omega)
    rw [this]
    have h2 : (-a).tdiv (-1) = a := by rw [Int.tdiv_neg, Int.tdiv_one]; omega
    rw [h2]
    exact IntWalk.wrap64_in _ (by omega)
  · by_cases h2 : b = 1
    · subst h2
      rw [Int.tdiv_one]
      obtain ⟨_, _⟩ := hn
      exact IntWalk.wrap64_in _ (by omega)
    · have h3 : ((wrap64 (a * b)).tdiv b).natAbs = (wrap64 (a * b)).natAbs / b.natAbs := Int.natAbs_tdiv _ _
      have h4 : (wrap64 (a * b)).natAbs / b.natAbs ≤ (wrap64 (a * b)).natAbs / 2 := Nat.div_le_div_left (by omega) (by omega)
      obtain ⟨_, _⟩ := hn
      exact IntWalk.wrap64_in _ (by omega)
/-- When a product is told to be too much. -/
def badM (a b : Int) : Bool := (a == -1 && b == -9223372036854775808) || (b == -1 && a == -9223372036854775808) || (wrap64 ((wrap64 (a * b)).tdiv b) != a)
theorem badM_iff {a b : Int} (ha : I64 a) (hb : I64 b) (h0 : b ≠ 0) : badM a b = false ↔ (-9223372036854775808 ≤ a * b ∧ a * b ≤ 9223372036854775807) := by
  by_cases h1 : a = -1 ∧ b = -9223372036854775808
  · obtain ⟨rfl, rfl⟩ := h1; decide
  · by_cases h2 : b = -1 ∧ a = -9223372036854775808
    · obtain ⟨rfl, rfl⟩ := h2; decide
    · have e1 : (a == -1 && b == -9223372036854775808) = false := by
        rw [Bool.and_eq_false_imp]; intro h; simp at h ⊢; exact fun h3 => h1 ⟨h, h3⟩
      have e2 : (b == -1 && a == -9223372036854775808) = false := by
        rw [Bool.and_eq_false_imp]; intro h; simp at h ⊢; exact fun h3 => h2 ⟨h, h3⟩
      unfold badM
      rw [e1, e2, quo_in ha hb h0 h2, ← quo_iff hb h0]
      simp
theorem mul_told {a b : Int} (ha : I64 a) (hb : I64 b) (h0 : b ≠ 0) : sumN (a * b) 0 = (if badM a b then 0 else wrap64 (a * b)) ∧ sumE (a * b) 0 = if badM a b then 11 else 0 := by
  have h := badM_iff ha hb h0
  cases hb2 : badM a b with
  | false =>
    have hin := h.1 hb2
    constructor
    · unfold sumN sumOk; rw [if_pos (by simpa using hin), if_neg (by simp), IntWalk.wrap64_in _ (by omega)]; omega
    · unfold sumE sumOk; rw [if_pos (by simpa using hin), if_neg (by simp)]
  | true =>
    have hin : ¬ (-9223372036854775808 ≤ a * b ∧ a * b ≤ 9223372036854775807) := fun h2 => by rw [h.2 h2] at hb2; cases hb2
    constructor
    · unfold sumN sumOk; rw [if_neg (by simpa using hin), if_pos rfl]
    · unfold sumE sumOk; rw [if_neg (by simpa using hin), if_pos rfl]

set_option maxHeartbeats 2000000 in
theorem refMul_any (a b : Int) (ha : I64 a) (hb : I64 b) (w : World) : Calls Tryd.prog 54 #[.int .i64 a, .int .i64 b] w fun e w' => e = .returned (.tuple #[.int .i64 (sumN (a * b) 0), .int .i64 (sumE (a * b) 0)]) ∧ w = w' := by
  by_cases h0 : a = 0
  · subst h0
    clear ha hb
    go_enter Tryd.func54, Tryd.ntmps54
    go_wp2
    go_ret2
    exact ⟨ret_pair (by simp [sumN, sumOk]) (by simp [sumE, sumOk]), rfl⟩
  by_cases h1 : b = 0
  · subst h1
    clear ha hb
    have e0 : (a == 0) = false := by simpa using h0
    go_enter Tryd.func54, Tryd.ntmps54
    go_wp2
    go_ret2
    exact ⟨ret_pair (by simp [sumN, sumOk]) (by simp [sumE, sumOk]), rfl⟩
  have e0 : (a == 0) = false := by simpa using h0
  have e1 : (b == 0) = false := by simpa using h1
  obtain ⟨t1, t2⟩ := mul_told ha hb h1
  rw [t1, t2]
  unfold badM
  clear t1 t2 ha hb
  cases e2 : (a == -1) <;> cases e3 : (b == -9223372036854775808) <;> cases e4 : (b == -1) <;> cases e5 : (a == -9223372036854775808) <;> cases e6 : (wrap64 ((wrap64 (a * b)).tdiv b) != a)
  all_goals (
    go_enter Tryd.func54, Tryd.ntmps54
    go_wp2
    go_ret2
    exact ⟨ret_pair rfl rfl, rfl⟩)
end Go.Proofs.YtjilfgkoibbcnaaDoor
