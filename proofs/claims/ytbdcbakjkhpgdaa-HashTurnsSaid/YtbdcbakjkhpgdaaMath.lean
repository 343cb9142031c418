/- Hashes, sizes, slots, turned numbers: what follows, in plain numbers. -/
import Derived.Test.YtbdcbakjkhpgdaaRef
import Derived.Test.YtbdcbakjkhpgdaaRefSum
import Derived.Test.YtbdcbakjkhpgdaaRefTurn
namespace Go.Proofs.Ytbdcbakjkhpgdaa

/-! Turned numbers. -/
theorem swap_bit (k m n j : Nat) (h : (decide (k ≤ j) && m.testBit (j - k)) = !m.testBit j) :
    (swapN (2 ^ k) m n).testBit j = n.testBit (if m.testBit j then j + k else j - k) := by
  unfold swapN
  rw [Nat.testBit_or, Nat.testBit_and, Nat.testBit_div_two_pow, ← Nat.shiftLeft_eq, Nat.testBit_shiftLeft, Nat.testBit_and]
  cases hm : m.testBit j with
  | true =>
    rw [hm] at h
    by_cases hk : k ≤ j
    · simp [hk] at h
      simp [h]
    · simp [hk]
  | false =>
    rw [hm] at h
    simp at h
    simp [h]

def partner (k m j : Nat) : Nat := if m.testBit j then j + k else j - k
theorem swaps_ok : ∀ j : Fin 32, (decide (1 ≤ j.val) && (1431655765).testBit (j.val - 1)) = !(1431655765).testBit j.val ∧
    (decide (2 ≤ j.val) && (858993459).testBit (j.val - 2)) = !(858993459).testBit j.val ∧
    (decide (4 ≤ j.val) && (252645135).testBit (j.val - 4)) = !(252645135).testBit j.val ∧
    (decide (8 ≤ j.val) && (16711935).testBit (j.val - 8)) = !(16711935).testBit j.val ∧
    (decide (16 ≤ j.val) && (65535).testBit (j.val - 16)) = !(65535).testBit j.val := by decide +kernel
theorem partners : ∀ j : Fin 32, partner 16 65535 j.val < 32 ∧ partner 8 16711935 (partner 16 65535 j.val) < 32 ∧ partner 4 252645135 (partner 8 16711935 (partner 16 65535 j.val)) < 32 ∧
    partner 2 858993459 (partner 4 252645135 (partner 8 16711935 (partner 16 65535 j.val))) < 32 ∧
    partner 1 1431655765 (partner 2 858993459 (partner 4 252645135 (partner 8 16711935 (partner 16 65535 j.val)))) = 31 - j.val := by decide +kernel

theorem turn_bit (n j : Nat) (hj : j < 32) : (turnN n).testBit j = n.testBit (31 - j) := by
  obtain ⟨l5, l4, l3, l2, l1⟩ := partners ⟨j, hj⟩
  simp only at l5 l4 l3 l2 l1
  have s5 := swap_bit 16 65535 (swapTo 4 n) j (swaps_ok ⟨j, hj⟩).2.2.2.2
  have s4 := swap_bit 8 16711935 (swapTo 3 n) _ (swaps_ok ⟨_, l5⟩).2.2.2.1
  have s3 := swap_bit 4 252645135 (swapTo 2 n) _ (swaps_ok ⟨_, l4⟩).2.2.1
  have s2 := swap_bit 2 858993459 (swapTo 1 n) _ (swaps_ok ⟨_, l3⟩).2.1
  have s1 := swap_bit 1 1431655765 (swapTo 0 n) _ (swaps_ok ⟨_, l2⟩).1
  rw [← l1]
  unfold turnN
  rw [swapTo_step4]
  refine s5.trans ?_
  rw [swapTo_step3]
  refine s4.trans ?_
  rw [swapTo_step2]
  refine s3.trans ?_
  rw [swapTo_step1]
  refine s2.trans ?_
  rw [swapTo_step0]
  exact s1

theorem turn_lt (n : Nat) (hn : n < 4294967296) : turnN n < 4294967296 := by
  have h1 := swapN_lt 2 1431655765 _ hn (by decide)
  have h2 := swapN_lt 4 858993459 _ h1 (by decide)
  have h3 := swapN_lt 16 252645135 _ h2 (by decide)
  have h4 := swapN_lt 256 16711935 _ h3 (by decide)
  have h5 := swapN_lt 65536 65535 _ h4 (by decide)
  exact h5
theorem bit_none (n j : Nat) (hn : n < 4294967296) (hj : ¬ j < 32) : n.testBit j = false :=
  Nat.testBit_lt_two_pow (Nat.lt_of_lt_of_le hn (show 2 ^ 32 ≤ 2 ^ j from Nat.pow_le_pow_right (by decide) (by omega)))
theorem turn_rev (n : Nat) (hn : n < 4294967296) : turnN n = revN n 32 := by
  apply Nat.eq_of_testBit_eq
  intro j
  by_cases hj : j < 32
  · rw [turn_bit n j hj, revN_bit]
    simp [hj]
  · rw [bit_none _ j (turn_lt n hn) hj, bit_none _ j (revN_lt n 32) hj]
theorem turn_turn (n : Nat) (hn : n < 4294967296) : turnN (turnN n) = n := by
  apply Nat.eq_of_testBit_eq
  intro j
  by_cases hj : j < 32
  · rw [turn_bit _ j hj, turn_bit _ _ (by omega)]
    congr 1
    omega
  · rw [bit_none _ j (turn_lt _ (turn_lt n hn)) hj, bit_none _ j hn hj]

/-! Hashes. -/
theorem xor_back (a b c : Nat) (h : a ^^^ c = b ^^^ c) : a = b := by
  have := congrArg (· ^^^ c) h
  simpa [Nat.xor_assoc] using this
theorem fold15 (h : Nat) (hh : h < 4294967296) : endX h ^^^ (endX h / 2 ^ 15 ^^^ endX h / 2 ^ 30) = h := by
  apply Nat.eq_of_testBit_eq
  intro j
  have hz := bit_none h (j + 45) hh (by omega)
  unfold endX
  rw [show (32768 : Nat) = 2 ^ 15 from rfl]
  simp only [Nat.testBit_xor, Nat.testBit_div_two_pow]
  rw [show j + 15 + 15 = j + 30 by omega, show j + 30 + 15 = j + 45 by omega, hz]
  cases h.testBit j <;> cases h.testBit (j + 15) <;> cases h.testBit (j + 30) <;> rfl
theorem fold13 (h : Nat) (hh : h < 4294967296) : endB h ^^^ (endB h / 2 ^ 13 ^^^ endB h / 2 ^ 26) = h := by
  apply Nat.eq_of_testBit_eq
  intro j
  have hz := bit_none h (j + 39) hh (by omega)
  unfold endB
  rw [show (8192 : Nat) = 2 ^ 13 from rfl]
  simp only [Nat.testBit_xor, Nat.testBit_div_two_pow]
  rw [show j + 13 + 13 = j + 26 by omega, show j + 26 + 13 = j + 39 by omega, hz]
  cases h.testBit j <;> cases h.testBit (j + 13) <;> cases h.testBit (j + 26) <;> rfl
theorem times_back (k i x y : Nat) (hi : k * i % 4294967296 = 1) (hx : x < 4294967296) (hy : y < 4294967296) (h : x * k % 4294967296 = y * k % 4294967296) : x = y := by
  have key : ∀ z, z < 4294967296 → (z * k % 4294967296) * i % 4294967296 = z := fun z hz => by
    rw [Nat.mod_mul_mod, Nat.mul_assoc, ← Nat.mul_mod_mod, hi, Nat.mul_one, Nat.mod_eq_of_lt hz]
  rw [← key x hx, ← key y hy, h]
theorem round_back (a b c : Nat) (ha : a < 4294967296) (hb : b < 4294967296) (hc : c < 256) (h : roundN a c = roundN b c) : a = b := by
  unfold roundN at h
  exact xor_back a b c (times_back 16777619 899433627 _ _ (by decide) (xor_lt32 ha (by omega)) (xor_lt32 hb (by omega)) h)
theorem foldN_back (l : List UInt8) : ∀ (a b : Nat), a < 4294967296 → b < 4294967296 → foldN a l = foldN b l → a = b := by
  induction l with
  | nil => intro a b _ _ h; exact h
  | cons c l ih =>
    intro a b ha hb h
    rw [foldN_cons, foldN_cons] at h
    exact round_back a b _ ha hb (UInt8.toNat_lt _) (ih _ _ (roundN_lt _ _) (roundN_lt _ _) h)
theorem endX_back {a b : Nat} (ha : a < 4294967296) (hb : b < 4294967296) (h : endX a = endX b) : a = b := by
  rw [← fold15 a ha, ← fold15 b hb, h]
theorem endB_back {a b : Nat} (ha : a < 4294967296) (hb : b < 4294967296) (h : endB a = endB b) : a = b := by
  rw [← fold13 a ha, ← fold13 b hb, h]
theorem sum_back (a b : Nat) (ha : a < 4294967296) (hb : b < 4294967296) (l : List UInt8) (h : sumN a l = sumN b l) : a = b := by
  unfold sumN endN at h
  have h2 := endB_back (endA_lt _) (endA_lt _) h
  unfold endA at h2
  have h3 := times_back 2246822519 3066638151 _ _ (by decide) (endX_lt (foldN_lt l (beginN_lt ha))) (endX_lt (foldN_lt l (beginN_lt hb))) h2
  have h4 := endX_back (foldN_lt l (beginN_lt ha)) (foldN_lt l (beginN_lt hb)) h3
  have h5 := foldN_back l _ _ (beginN_lt ha) (beginN_lt hb) h4
  exact xor_back a b _ h5

/-! Sizes and slots. -/
theorem fit_mem (n : Int) : sizeS n ∈ sizeL := by
  unfold sizeS fit
  cases h : sizeL.find? (fun (x : Nat) => decide (n ≤ (x : Int))) with
  | none => decide
  | some x => exact List.mem_of_find?_eq_some h
theorem isS_size (n : Int) : isS (sizeS n : Int) = true := (isS_iff _).2 ⟨_, fit_mem n, rfl⟩
theorem size_size (n : Int) : sizeS (sizeS n : Int) = sizeS n := by
  have := of_decide_eq_true (isS_size n)
  omega
theorem size_says (n : Int) : (n ≤ sizeS n ∨ sizeS n = 65536) ∧ (sizeS n = 4 ∨ ((sizeS n / 2 : Nat) : Int) < n) := by
  have key : ∀ i, i ≤ 14 → (i = 0 ∨ ((sizeN (i - 1) : Nat) : Int) < n) → (n ≤ fit n (sizeL.drop i) ∨ fit n (sizeL.drop i) = 65536) ∧ (fit n (sizeL.drop i) = 4 ∨ ((fit n (sizeL.drop i) / 2 : Nat) : Int) < n) := by
    intro i hi
    obtain ⟨d, hd⟩ : ∃ d, d = 14 - i := ⟨_, rfl⟩
    induction d generalizing i with
    | zero =>
      obtain rfl : i = 14 := by omega
      intro h
      rw [fit_last]
      have : sizeN 13 = 32768 := by decide +kernel
      rcases h with h | h
      · cases h
      · rw [this] at h
        exact ⟨.inr rfl, .inr h⟩
    | succ d ih =>
      intro h
      obtain ⟨hx, h1, h2, h3⟩ := sizeN_facts ⟨i, by omega⟩
      simp only at hx h1 h2 h3
      by_cases hn : n ≤ ((sizeN i : Nat) : Int)
      · rw [fit_here n i _ hx hn]
        refine ⟨.inl hn, ?_⟩
        rcases h with rfl | h
        · exact .inl (by decide +kernel)
        · by_cases h0 : i = 0
          · subst h0; exact .inl (by decide +kernel)
          · have h4 := (sizeN_facts ⟨i - 1, by omega⟩).2.2.2
            simp only at h4
            rw [show i - 1 + 1 = i by omega] at h4
            right
            rw [h4, Nat.mul_div_cancel_left _ (by decide)]
            exact h
      · rw [fit_on n i _ hx hn]
        exact ih (i + 1) (by omega) (by omega) (.inr (by rw [Nat.add_sub_cancel]; omega))
  exact key 0 (by omega) (.inl rfl)
theorem halves (sum : Nat) (size : Int) (h : isS size = true) (hne : size ≠ 65536) : isS (2 * size) = true ∧ ((sum : Int) % (2 * size) = sum % size ∨ (sum : Int) % (2 * size) = sum % size + size) := by
  obtain ⟨x, hx, rfl⟩ := (isS_iff _).1 h
  have hx2 : ∀ x ∈ sizeL, x ≠ 65536 → isS (2 * (x : Int)) = true := by decide +kernel
  refine ⟨hx2 x hx (fun e => hne (by rw [e]; rfl)), ?_⟩
  have hp := isS_pos h
  have e1 := Int.emod_emod_of_dvd (sum : Int) (show (x : Int) ∣ 2 * (x : Int) from ⟨2, by omega⟩)
  have l1 := Int.emod_lt_of_pos (sum : Int) (show 0 < 2 * (x : Int) by omega)
  have l0 := Int.emod_nonneg (sum : Int) (show 2 * (x : Int) ≠ 0 by omega)
  generalize (sum : Int) % (2 * (x : Int)) = y at *
  rw [← e1]
  by_cases hy : y < x
  · exact .inl (Int.emod_eq_of_lt l0 hy).symm
  · right
    have : y % (x : Int) = (y - x) % (x : Int) := by rw [Int.sub_emod_right]
    rw [this, Int.emod_eq_of_lt (by omega) (by omega)]
    omega
end Go.Proofs.Ytbdcbakjkhpgdaa
