/- The walks of the six laws. -/
import Derived.Test.YtbdcbakjkhpgdaaLaw
namespace Go.Proofs.Ytbdcbakjkhpgdaa
open Go.RowKit Go.Shelf
attribute [local go_sem] Oper.semAt_some

/-- The law's end: it is true, and what was there is as it was. -/
def Holds (w : World) (e : Ending) (w' : World) : Prop := e = .returned (.bool true) ∧ Below w.heap.size w w'

theorem cut_lt (s : ByteArray) : (cutS s).size ≤ 281474976710656 := Nat.le_trans (cutS_size s) (by decide)

set_option maxRecDepth 100000 in
set_option maxHeartbeats 2000000 in
theorem seeds_walk (a b : Nat) (ha : a < 4294967296) (hb : b < 4294967296) (s : ByteArray) (hs : s.size ≤ 9223372036854775807) (w : World) :
    Calls Try.prog 7 #[.int .u32 a, .int .u32 b, .string s] w (Holds w) := by
  have H0 := fun w => Lib.hid (shown_any w)
  have H1 := fun w => Lib.hid (sum_any a ha (cutS s) (cut_lt s) w)
  have H2 := fun w => Lib.hid (sum_any b hb (cutS s) (cut_lt s) w)
  have HC := fun w => Lib.hid (cut_any s hs w)
  have hiff : sumN a (cutS s).data.toList = sumN b (cutS s).data.toList ↔ a = b := ⟨sum_back a b ha hb _, fun e => by rw [e]⟩
  generalize sumN a (cutS s).data.toList = x at *
  generalize sumN b (cutS s).data.toList = y at *
  have hd : (((x : Int) == (y : Int)) == ((a : Int) == (b : Int))) = true := by
    by_cases e : a = b
    · have := hiff.2 e; simp [e, this]
    · have h2 : ¬ x = y := fun h => e (hiff.1 h)
      have h3 : ¬ (x : Int) = y := by omega
      have h4 : ¬ (a : Int) = b := by omega
      have e1 : ((x : Int) == (y : Int)) = false := beq_eq_false_iff_ne.2 h3
      have e2 : ((a : Int) == (b : Int)) = false := beq_eq_false_iff_ne.2 h4
      rw [e1, e2]
      rfl
  have HD := Lib.hid hd
  clear hd hiff
  go_enter Try.func7, Try.ntmps7
  go_wp2_with fail
  refine (H0 _).out.mono ?_
  rintro e w1 ⟨rfl, hb1⟩
  go_wp2_with fail
  refine (HC _).out.mono ?_
  rintro e w' ⟨rfl, rfl⟩
  go_wp2_with fail
  refine (H1 _).out.mono ?_
  rintro e w2 ⟨rfl, hb2⟩
  go_wp2_with fail
  refine (HC _).out.mono ?_
  rintro e w' ⟨rfl, rfl⟩
  go_wp2_with fail
  refine (H2 _).out.mono ?_
  rintro e w3 ⟨rfl, hb3⟩
  go_wp2
  go_ret
  exact ⟨congrArg (fun t => Ending.returned (.bool t)) HD.out, (hb1.trans (hb2.mono hb1.size)).trans (hb3.mono (hb1.trans (hb2.mono hb1.size)).size)⟩

set_option maxRecDepth 100000 in
set_option maxHeartbeats 2000000 in
theorem halves_walk (sum : Nat) (hs : sum < 4294967296) (size : Int) (h0 : -9223372036854775808 ≤ size) (h1 : size ≤ 9223372036854775807) (w : World) :
    Calls Try.prog 6 #[.int .u32 sum, .int .i64 size] w (Holds w) := by
  have H0 := fun w => Lib.hid (shown_any w)
  have H1 := fun w => Lib.hid (slot_any sum hs size w)
  by_cases hi : isS size = true
  · have hp := isS_pos hi
    unfold slotS at H1
    rw [if_pos hi] at H1
    have g3 : (0 : Int) ≤ (sum : Int) % size := Int.emod_nonneg _ (by omega)
    have g4 : (sum : Int) % size < size := Int.emod_lt_of_pos _ (by omega)
    by_cases hne : size = 65536
    · generalize (sum : Int) % size = x at *
      clear hi
      subst hne
      go_enter Try.func6, Try.ntmps6
      go_wp2_with fail
      refine (H0 _).out.mono ?_
      rintro e w1 ⟨rfl, hb1⟩
      go_wp2_with fail
      refine (H1 _).out.mono ?_
      rintro e w2 ⟨rfl, hb2⟩
      go_wp2
      go_ret
      exact ⟨rfl, hb1.trans (hb2.mono hb1.size)⟩
    · obtain ⟨k1, k2⟩ := halves sum size hi hne
      have H2 := fun w => Lib.hid (slot_any sum hs (2 * size) w)
      unfold slotS at H2
      rw [if_pos k1] at H2
      generalize (sum : Int) % (2 * size) = y at *
      generalize (sum : Int) % size = x at *
      clear hi k1
      have hne2 : ¬ size = 65536 := hne
      rcases k2 with rfl | rfl
      · go_enter Try.func6, Try.ntmps6
        go_wp2_with fail
        refine (H0 _).out.mono ?_
        rintro e w1 ⟨rfl, hb1⟩
        go_wp2_with fail
        refine (H1 _).out.mono ?_
        rintro e w2 ⟨rfl, hb2⟩
        go_wp2_with fail
        refine (H2 _).out.mono ?_
        rintro e w3 ⟨rfl, hb3⟩
        go_wp2
        go_ret
        exact ⟨rfl, (hb1.trans (hb2.mono hb1.size)).trans (hb3.mono (hb1.trans (hb2.mono hb1.size)).size)⟩
      · have g5 : ¬ x + size = x := by omega
        go_enter Try.func6, Try.ntmps6
        go_wp2_with fail
        refine (H0 _).out.mono ?_
        rintro e w1 ⟨rfl, hb1⟩
        go_wp2_with fail
        refine (H1 _).out.mono ?_
        rintro e w2 ⟨rfl, hb2⟩
        go_wp2_with fail
        refine (H2 _).out.mono ?_
        rintro e w3 ⟨rfl, hb3⟩
        go_wp2
        go_ret
        exact ⟨rfl, (hb1.trans (hb2.mono hb1.size)).trans (hb3.mono (hb1.trans (hb2.mono hb1.size)).size)⟩
  · unfold slotS at H1
    rw [if_neg hi] at H1
    clear hi
    go_enter Try.func6, Try.ntmps6
    go_wp2_with fail
    refine (H0 _).out.mono ?_
    rintro e w1 ⟨rfl, hb1⟩
    go_wp2_with fail
    refine (H1 _).out.mono ?_
    rintro e w2 ⟨rfl, hb2⟩
    go_wp2
    go_ret
    exact ⟨rfl, hb1.trans (hb2.mono hb1.size)⟩

set_option maxRecDepth 100000 in
set_option maxHeartbeats 2000000 in
theorem fits_walk (n : Int) (sum : Nat) (hs : sum < 4294967296) (w : World) :
    Calls Try.prog 8 #[.int .i64 n, .int .u32 sum] w (Holds w) := by
  have H0 := fun w => Lib.hid (shown_any w)
  have H1 := fun w => Lib.hid (sizeFor_any n w)
  have H2 := fun w => Lib.hid (slot_any sum hs (sizeS n) w)
  have H3 := fun w => Lib.hid (sizeFor_any (sizeS n) w)
  rw [size_size] at H3
  have hi := isS_size n
  have hp := isS_pos hi
  unfold slotS at H2
  rw [if_pos hi] at H2
  clear hi
  generalize sizeS n = k at *
  have g3 : (0 : Int) ≤ (sum : Int) % k := Int.emod_nonneg _ (by omega)
  have g4 : (sum : Int) % k < k := Int.emod_lt_of_pos _ (by omega)
  generalize (sum : Int) % k = x at *
  go_enter Try.func8, Try.ntmps8
  go_wp2_with fail
  refine (H0 _).out.mono ?_
  rintro e w1 ⟨rfl, hb1⟩
  go_wp2_with fail
  refine (H1 _).out.mono ?_
  rintro e w2 ⟨rfl, hb2⟩
  go_wp2_with fail
  refine (H2 _).out.mono ?_
  rintro e w3 ⟨rfl, hb3⟩
  go_wp2_with fail
  refine (H3 _).out.mono ?_
  rintro e w4 ⟨rfl, hb4⟩
  go_wp2
  go_ret
  have c2 := hb1.trans (hb2.mono hb1.size)
  have c3 := c2.trans (hb3.mono c2.size)
  exact ⟨rfl, c3.trans (hb4.mono c3.size)⟩

set_option maxRecDepth 100000 in
set_option maxHeartbeats 2000000 in
theorem sizes_walk (n : Int) (w : World) : Calls Try.prog 5 #[.int .i64 n] w (Holds w) := by
  have H0 := fun w => Lib.hid (shown_any w)
  have H1 := fun w => Lib.hid (sizeFor_any n w)
  have H2 := fun w => Lib.hid (isSize_any (sizeS n) w)
  have hi := isS_size n
  have hp := isS_pos hi
  rw [hi] at H2
  clear hi
  obtain ⟨q1, q2⟩ := size_says n
  generalize sizeS n = k at *
  have q2' : k = 4 ∨ ((k : Int) / 2) < n := by omega
  clear q2
  by_cases a1 : n ≤ (k : Int)
  · by_cases a2 : k = 4
    · subst a2
      clear q1 q2'
      go_enter Try.func5, Try.ntmps5
      go_wp2_with fail
      refine (H0 _).out.mono ?_
      rintro e w1 ⟨rfl, hb1⟩
      go_wp2_with fail
      refine (H1 _).out.mono ?_
      rintro e w2 ⟨rfl, hb2⟩
      go_wp2_with fail
      refine (H2 _).out.mono ?_
      rintro e w3 ⟨rfl, hb3⟩
      go_wp2
      go_ret
      exact ⟨rfl, (hb1.trans (hb2.mono hb1.size)).trans (hb3.mono (hb1.trans (hb2.mono hb1.size)).size)⟩
    · have a3 : (k : Int) / 2 < n := by omega
      have a4 : ¬ (k : Int) = 4 := by omega
      clear q1 q2'
      go_enter Try.func5, Try.ntmps5
      go_wp2_with fail
      refine (H0 _).out.mono ?_
      rintro e w1 ⟨rfl, hb1⟩
      go_wp2_with fail
      refine (H1 _).out.mono ?_
      rintro e w2 ⟨rfl, hb2⟩
      go_wp2_with fail
      refine (H2 _).out.mono ?_
      rintro e w3 ⟨rfl, hb3⟩
      go_wp2
      go_ret
      exact ⟨rfl, (hb1.trans (hb2.mono hb1.size)).trans (hb3.mono (hb1.trans (hb2.mono hb1.size)).size)⟩
  · obtain rfl : k = 65536 := by omega
    have a3 : (32768 : Int) < n := by omega
    have a5 : ¬ n ≤ (65536 : Int) := by omega
    clear q1 q2' a1
    go_enter Try.func5, Try.ntmps5
    go_wp2_with fail
    refine (H0 _).out.mono ?_
    rintro e w1 ⟨rfl, hb1⟩
    go_wp2_with fail
    refine (H1 _).out.mono ?_
    rintro e w2 ⟨rfl, hb2⟩
    go_wp2_with fail
    refine (H2 _).out.mono ?_
    rintro e w3 ⟨rfl, hb3⟩
    go_wp2
    go_ret
    exact ⟨rfl, (hb1.trans (hb2.mono hb1.size)).trans (hb3.mono (hb1.trans (hb2.mono hb1.size)).size)⟩

set_option maxRecDepth 100000 in
set_option maxHeartbeats 2000000 in
theorem turns_walk (n : Int) (k : Nat) (hk : k < 4294967296) (w : World) : Calls Try.prog 4 #[.int .i64 n, .int .u32 k] w (Holds w) := by
  have H0 := fun w => Lib.hid (shown_any w)
  have H1 := fun w => Lib.hid (sizeFor_any n w)
  have H2 := fun w => Lib.hid (refSizeFor_any n w)
  have H3 := fun w => Lib.hid (turn_any k hk w)
  have H4 := fun w => Lib.hid (refTurn_any k hk w)
  have H5 := fun w => Lib.hid (turn_any (turnN k) (turn_lt k hk) w)
  rw [turn_turn k hk] at H5
  rw [← turn_rev k hk] at H4
  generalize turnN k = m at *
  generalize sizeS n = s at *
  go_enter Try.func4, Try.ntmps4
  go_wp2_with fail
  refine (H0 _).out.mono ?_
  rintro e w1 ⟨rfl, hb1⟩
  go_wp2_with fail
  refine (H1 _).out.mono ?_
  rintro e w2 ⟨rfl, hb2⟩
  go_wp2_with fail
  refine (H2 _).out.mono ?_
  rintro e w2' ⟨rfl, rfl⟩
  go_wp2_with fail
  refine (H3 _).out.mono ?_
  rintro e w3 ⟨rfl, hb3⟩
  go_wp2_with fail
  refine (H4 _).out.mono ?_
  rintro e w3' ⟨rfl, rfl⟩
  go_wp2_with fail
  refine (H3 _).out.mono ?_
  rintro e w4 ⟨rfl, hb4⟩
  go_wp2_with fail
  refine (H5 _).out.mono ?_
  rintro e w5 ⟨rfl, hb5⟩
  go_wp2
  go_ret
  have c2 := hb1.trans (hb2.mono hb1.size)
  have c3 := c2.trans (hb3.mono c2.size)
  have c4 := c3.trans (hb4.mono c3.size)
  exact ⟨rfl, c4.trans (hb5.mono c4.size)⟩

set_option maxRecDepth 100000 in
set_option maxHeartbeats 2000000 in
theorem sums_walk (seed : Nat) (hd : seed < 4294967296) (s : ByteArray) (hz : s.size ≤ 9223372036854775807) (sum : Nat) (hs : sum < 4294967296) (size : Int) (w : World) :
    Calls Try.prog 3 #[.int .u32 seed, .string s, .int .u32 sum, .int .i64 size] w (Holds w) := by
  have H0 := fun w => Lib.hid (shown_any w)
  have H1 := fun w => Lib.hid (slot_any sum hs size w)
  have H2 := fun w => Lib.hid (refSlot_any sum hs size w)
  have HC := fun w => Lib.hid (cut_any s hz w)
  have H3 := fun w => Lib.hid (sum_any seed hd (cutS s) (cut_lt s) w)
  have H4 := fun w => Lib.hid (refSum_any seed hd (cutS s) (cut_lt s) w)
  have H5 := fun w => Lib.hid (isSize_any size w)
  have H6 := fun w => Lib.hid (refIsSize_any size w)
  obtain ⟨a, b, hab⟩ : ∃ a b : Int, slotS sum size = .tuple #[.int .i64 a, .int .i64 b] := by
    unfold slotS; split <;> exact ⟨_, _, rfl⟩
  rw [hab] at H1 H2
  clear hab
  generalize sumN seed (cutS s).data.toList = x at *
  generalize isS size = t at *
  go_enter Try.func3, Try.ntmps3
  go_wp2_with fail
  refine (H0 _).out.mono ?_
  rintro e w1 ⟨rfl, hb1⟩
  go_wp2_with fail
  refine (H1 _).out.mono ?_
  rintro e w2 ⟨rfl, hb2⟩
  go_wp2_with fail
  refine (H2 _).out.mono ?_
  rintro e w2' ⟨rfl, rfl⟩
  go_wp2_with fail
  refine (HC _).out.mono ?_
  rintro e w2'' ⟨rfl, rfl⟩
  go_wp2_with fail
  refine (H3 _).out.mono ?_
  rintro e w3 ⟨rfl, hb3⟩
  go_wp2_with fail
  refine (HC _).out.mono ?_
  rintro e w3' ⟨rfl, rfl⟩
  go_wp2_with fail
  refine (H4 _).out.mono ?_
  rintro e w3'' ⟨rfl, rfl⟩
  go_wp2_with fail
  refine (H5 _).out.mono ?_
  rintro e w4 ⟨rfl, hb4⟩
  go_wp2_with fail
  refine (H6 _).out.mono ?_
  rintro e w4' ⟨rfl, rfl⟩
  go_wp2
  go_ret
  have c2 := hb1.trans (hb2.mono hb1.size)
  have c3 := c2.trans (hb3.mono c2.size)
  exact ⟨by simp, c3.trans (hb4.mono c3.size)⟩
end Go.Proofs.Ytbdcbakjkhpgdaa
