/- Turn: a number whose digits are turned. -/
import Derived.Test.YtlfhiolkbnhinaaDoorRange
namespace Go.Proofs.YtlfhiolkbnhinaaDoor
open Go.RowKit Go.Shelf
attribute [local go_sem] Oper.semAt_some

/-- Neighbours of width k change places; m: the right ones of each two. -/
def swapN (q m n : Nat) : Nat := ((n / q) &&& m) ||| ((n &&& m) * q)
theorem or_lt32 {a b : Nat} (ha : a < 4294967296) (hb : b < 4294967296) : a ||| b < 4294967296 := Nat.or_lt_two_pow (n := 32) ha hb

theorem bits_and32 (a b : Nat) (ha : a < 4294967296) (hb : b < 4294967296) : bits .and .u32 (a : Int) (b : Int) = ((a &&& b : Nat) : Int) := by
  have hx : a &&& b < 4294967296 := Nat.lt_of_le_of_lt Nat.and_le_left ha
  unfold bits
  show IntKind.u32.wrap ((BitVec.ofInt 32 (a : Int) &&& BitVec.ofInt 32 (b : Int)).toNat : Int) = _
  rw [BitVec.ofInt_natCast, BitVec.ofInt_natCast, BitVec.toNat_and, BitVec.toNat_ofNat, BitVec.toNat_ofNat, Nat.mod_eq_of_lt ha, Nat.mod_eq_of_lt hb, IntKind.wrap_u32]
  omega
theorem bits_or32 (a b : Nat) (ha : a < 4294967296) (hb : b < 4294967296) : bits .or .u32 (a : Int) (b : Int) = ((a ||| b : Nat) : Int) := by
  have hx := or_lt32 ha hb
  unfold bits
  show IntKind.u32.wrap ((BitVec.ofInt 32 (a : Int) ||| BitVec.ofInt 32 (b : Int)).toNat : Int) = _
  rw [BitVec.ofInt_natCast, BitVec.ofInt_natCast, BitVec.toNat_or, BitVec.toNat_ofNat, BitVec.toNat_ofNat, Nat.mod_eq_of_lt ha, Nat.mod_eq_of_lt hb, IntKind.wrap_u32]
  omega

def widthN (i : Nat) : Nat := [1, 2, 4, 8, 16].getD i 0
def swapTo : Nat → Nat → Nat
  | 0, n => n
  | i + 1, n => swapN (2 ^ widthN i) (4294967295 / (2 ^ widthN i + 1)) (swapTo i n)
def turnN (n : Nat) : Nat := swapTo 5 n

theorem swapN_lt (q m n : Nat) (hn : n < 4294967296) (hm : m * q < 4294967296) : swapN q m n < 4294967296 :=
  or_lt32 (Nat.lt_of_le_of_lt Nat.and_le_left (Nat.lt_of_le_of_lt (Nat.div_le_self _ _) hn)) (Nat.lt_of_le_of_lt (Nat.mul_le_mul_right q Nat.and_le_right) hm)
theorem swap_val (q m n : Nat) (hn : n < 4294967296) (hm : m * q < 4294967296) (hm1 : m < 4294967296) :
    bits .or .u32 (bits .and .u32 ((n : Int) / (q : Int)) (m : Int)) (bits .and .u32 (n : Int) (m : Int) * (q : Int) % 4294967296) = ((swapN q m n : Nat) : Int) := by
  have h0 : n / q < 4294967296 := Nat.lt_of_le_of_lt (Nat.div_le_self _ _) hn
  have h1 : (n / q &&& m) < 4294967296 := Nat.lt_of_le_of_lt Nat.and_le_left h0
  have h2 : (n &&& m) ≤ m := Nat.and_le_right
  have h3 : (n &&& m) * q < 4294967296 := Nat.lt_of_le_of_lt (Nat.mul_le_mul_right q h2) hm
  have e1 : bits .and .u32 ((n : Int) / (q : Int)) (m : Int) = ((n / q &&& m : Nat) : Int) := bits_and32 (n / q) m h0 hm1
  have e2 : bits .and .u32 (n : Int) (m : Int) * (q : Int) % 4294967296 = (((n &&& m) * q : Nat) : Int) := by
    rw [bits_and32 n m hn hm1, ← Int.natCast_mul]
    omega
  rw [e1, e2]
  exact bits_or32 _ _ h1 h3

theorem swapTo_step0 (n : Nat) : swapTo (0 + 1) n = swapN 2 1431655765 (swapTo 0 n) := by
  unfold swapTo
  rfl
theorem swapTo_step1 (n : Nat) : swapTo (1 + 1) n = swapN 4 858993459 (swapTo 1 n) := by
  unfold swapTo
  rfl
theorem swapTo_step2 (n : Nat) : swapTo (2 + 1) n = swapN 16 252645135 (swapTo 2 n) := by
  unfold swapTo
  rfl
theorem swapTo_step3 (n : Nat) : swapTo (3 + 1) n = swapN 256 16711935 (swapTo 3 n) := by
  unfold swapTo
  rfl
theorem swapTo_step4 (n : Nat) : swapTo (4 + 1) n = swapN 65536 65535 (swapTo 4 n) := by
  unfold swapTo
  rfl

set_option maxRecDepth 100000 in
set_option maxHeartbeats 4000000 in
theorem swapped_any (n : Nat) (hn : n < 4294967296) (B : Nat) (w : World) (hB : Blk w B 3 #[.int .i64 1, .int .i64 2, .int .i64 4, .int .i64 8, .int .i64 16]) :
    Calls Tryd.prog 54 #[.int .u32 n, .slice (some ⟨B, 0, none⟩) 5 5] w fun e w' => e = .returned (.int .u32 (turnN n)) ∧ Below w.heap.size w w' := by
  go_enter Tryd.func54, Tryd.ntmps54
  go_wp2
  go_loopw [0, 10] (fun v j wr => ∃ (i : Nat), j = .int .i64 i ∧ i ≤ 5 ∧ v = .int .u32 (swapTo i n) ∧ swapTo i n < 4294967296 ∧ Below w.heap.size w wr)
    (fun _ j _ => 5 - (intOf j).toNat)
  case atStart => exact ⟨0, rfl, by omega, rfl, hn, Below.refl _ _⟩
  case round =>
    obtain ⟨i, rfl, hi, rfl, hlt, hb⟩ := hrel
    have hB := hB.later hb
    have c0 := hB.cell 0
    have c1 := hB.cell 1
    have c2 := hB.cell 2
    have c3 := hB.cell 3
    have c4 := hB.cell 4
    simp at c0 c1 c2 c3 c4
    have hi6 : i = 0 ∨ i = 1 ∨ i = 2 ∨ i = 3 ∨ i = 4 ∨ i = 5 := by omega
    rcases hi6 with rfl | rfl | rfl | rfl | rfl | rfl
    · have hs := swapTo_step0 n
      have hl := swapN_lt 2 1431655765 _ hlt (by decide)
      have hv : bits .or .u32 (bits .and .u32 ((swapTo 0 n : Nat) / 2 : Int) 1431655765) (bits .and .u32 ((swapTo 0 n : Nat) : Int) 1431655765 * 2 % 4294967296) = _ := swap_val 2 1431655765 (swapTo 0 n) hlt (by decide) (by decide)
      rw [← hs] at hl hv
      have HV := Lib.hid hv
      clear hs hv
      generalize swapTo 0 n = v at *
      go_wp2
      go_region
      go_wp2
      exact ⟨⟨1, rfl, by omega, by rw [HV.out], hl, hb.drew⟩, by simp [intOf]⟩
    · have hs := swapTo_step1 n
      have hl := swapN_lt 4 858993459 _ hlt (by decide)
      have hv : bits .or .u32 (bits .and .u32 ((swapTo 1 n : Nat) / 4 : Int) 858993459) (bits .and .u32 ((swapTo 1 n : Nat) : Int) 858993459 * 4 % 4294967296) = _ := swap_val 4 858993459 (swapTo 1 n) hlt (by decide) (by decide)
      rw [← hs] at hl hv
      have HV := Lib.hid hv
      clear hs hv
      generalize swapTo 1 n = v at *
      go_wp2
      go_region
      go_wp2
      exact ⟨⟨2, rfl, by omega, by rw [HV.out], hl, hb.drew⟩, by simp [intOf]⟩
    · have hs := swapTo_step2 n
      have hl := swapN_lt 16 252645135 _ hlt (by decide)
      have hv : bits .or .u32 (bits .and .u32 ((swapTo 2 n : Nat) / 16 : Int) 252645135) (bits .and .u32 ((swapTo 2 n : Nat) : Int) 252645135 * 16 % 4294967296) = _ := swap_val 16 252645135 (swapTo 2 n) hlt (by decide) (by decide)
      rw [← hs] at hl hv
      have HV := Lib.hid hv
      clear hs hv
      generalize swapTo 2 n = v at *
      go_wp2
      go_region
      go_wp2
      exact ⟨⟨3, rfl, by omega, by rw [HV.out], hl, hb.drew⟩, by simp [intOf]⟩
    · have hs := swapTo_step3 n
      have hl := swapN_lt 256 16711935 _ hlt (by decide)
      have hv : bits .or .u32 (bits .and .u32 ((swapTo 3 n : Nat) / 256 : Int) 16711935) (bits .and .u32 ((swapTo 3 n : Nat) : Int) 16711935 * 256 % 4294967296) = _ := swap_val 256 16711935 (swapTo 3 n) hlt (by decide) (by decide)
      rw [← hs] at hl hv
      have HV := Lib.hid hv
      clear hs hv
      generalize swapTo 3 n = v at *
      go_wp2
      go_region
      go_wp2
      exact ⟨⟨4, rfl, by omega, by rw [HV.out], hl, hb.drew⟩, by simp [intOf]⟩
    · have hs := swapTo_step4 n
      have hl := swapN_lt 65536 65535 _ hlt (by decide)
      have hv : bits .or .u32 (bits .and .u32 ((swapTo 4 n : Nat) / 65536 : Int) 65535) (bits .and .u32 ((swapTo 4 n : Nat) : Int) 65535 * 65536 % 4294967296) = _ := swap_val 65536 65535 (swapTo 4 n) hlt (by decide) (by decide)
      rw [← hs] at hl hv
      have HV := Lib.hid hv
      clear hs hv
      generalize swapTo 4 n = v at *
      go_wp2
      go_region
      go_wp2
      exact ⟨⟨5, rfl, by omega, by rw [HV.out], hl, hb.drew⟩, by simp [intOf]⟩
    · have hs : swapTo 5 n = turnN n := rfl
      rw [hs]
      go_wp2
      go_ret
      exact ⟨rfl, hb⟩

set_option maxHeartbeats 1000000 in
theorem turn_any (n : Nat) (hn : n < 4294967296) (w : World) : Calls Tryd.prog 30 #[.int .u32 n] w fun e w' => e = .returned (.int .u32 (turnN n)) ∧ Below w.heap.size w w' := by
  go_enter Tryd.func30, Tryd.ntmps30
  go_wp2_with fail
  refine (swapped_any n hn w.heap.size _ (Blk.new _ _ _)).mono ?_
  rintro e w1 ⟨rfl, hb1⟩
  go_wp2
  go_ret
  exact ⟨rfl, ((Below.refl _ _).alloc (Nat.le_refl _) _).trans (hb1.mono (by simp))⟩
end Go.Proofs.YtlfhiolkbnhinaaDoor
