/- Sums of two numbers, the program's and the reference's. -/
import Derived.Test.YtjilfgkoibbcnaaDoorBase
import Derived.WalkKit
import Derived.WalkSpells
import Derived.WalkLawsBesides
import Derived.Deep.DeepCutAuto
import Derived.Deep.QuietTactic
import Derived.BigQuiet
import Derived.Deep.RegionHeld3
import Derived.Lib.Hide
import Derived.Laws.Externs
import Derived.IntWalk
namespace Go.Proofs.YtjilfgkoibbcnaaDoor
open Go.RowKit
attribute [local go_sem] Oper.semAt_some

/-- What a sum answers. -/
def sumOk (a b : Int) : Bool := decide (-9223372036854775808 ≤ a + b ∧ a + b ≤ 9223372036854775807)
def sumN (a b : Int) : Int := if sumOk a b then a + b else 0
def sumE (a b : Int) : Int := if sumOk a b then 0 else 11
theorem sumN_i64 (a b : Int) : I64 (sumN a b) := by
  unfold sumN sumOk I64
  split
  · rename_i h; simp at h; omega
  · omega

theorem ret_pair {a b c d : Int} (h : a = c) (h2 : b = d) : Ending.returned (.tuple #[.int .i64 a, .int .i64 b]) = .returned (.tuple #[.int .i64 c, .int .i64 d]) := by rw [h, h2]

theorem add64 (x y : Int) (hx : 0 ≤ x) (hy : 0 ≤ y) (w : World) : (callFunc 74 #[.int .u64 x, .int .u64 y, .int .u64 0]).run Tryd.prog w = .ok (.value (.tuple #[.int .u64 ((x + y) % 18446744073709551616), .int .u64 ((x + y) / 18446744073709551616)])) w := by
  rw [run_callFunc_extern Tryd.func74 (by kernel_rfl) (by kernel_rfl) (by kernel_rfl) (e := add64Entry) (by kernel_rfl), run_add64 x y 0 (by omega) (by omega) (by omega) (by omega)]
  simp only [Result.andThen]
  simp only [Int.add_zero]

set_option maxHeartbeats 400000 in
theorem refAdd_any (a b : Int) (ha : I64 a) (hb : I64 b) (w : World) : Calls Tryd.prog 63 #[.int .i64 a, .int .i64 b] w fun e w' => e = .returned (.tuple #[.int .i64 (sumN a b), .int .i64 (sumE a b)]) ∧ w = w' := by
  obtain ⟨a1, a2⟩ := ha
  obtain ⟨b1, b2⟩ := hb
  go_enter Tryd.func63, Tryd.ntmps63
  go_wp2
  all_goals go_ret2
  all_goals refine ⟨ret_pair ?_ ?_, rfl⟩
  all_goals simp only [sumN, sumE, sumOk, decide_eq_true_eq]
  all_goals ((try unfold wrap64 at *); split <;> omega)

/-- The sum as the program holds it: above and below 2^64. -/
def hiN (s : Int) : Int := s / 18446744073709551616
def loN (s : Int) : Int := s % 18446744073709551616
def sgn (v : Int) : Int := if v < 0 then -1 else 0
def word (v : Int) : Int := if v < 0 then v + 18446744073709551616 else v
theorem word_of {v : Int} (h : I64 v) : IntKind.u64.wrap v = word v := by
  unfold word
  obtain ⟨_, _⟩ := h
  rw [IntKind.wrap_u64]
  split <;> omega
theorem lo_step (s v : Int) : (loN s + word v) % 18446744073709551616 = loN (s + v) := by
  unfold loN word; split <;> omega
theorem hi_step (s v : Int) : hiN s + sgn v + (loN s + word v) / 18446744073709551616 = hiN (s + v) := by
  unfold loN word hiN sgn; split <;> omega

theorem lo_pos (s : Int) : 0 ≤ loN s := by unfold loN; omega
theorem word_pos {v : Int} (h : I64 v) : 0 ≤ word v := by
  obtain ⟨_, _⟩ := h
  unfold word; split <;> omega
def carry (s v : Int) : Int := (loN s + word v) / 18446744073709551616
theorem carry_in (s v : Int) (h : I64 v) : 0 ≤ carry s v ∧ carry s v ≤ 1 := by
  obtain ⟨_, _⟩ := h
  unfold carry loN word; split <;> omega
theorem hi_in {s : Int} (h : -18446744073709551616 ≤ s) (h2 : s ≤ 18446744073709551615) : -1 ≤ hiN s ∧ hiN s ≤ 0 := by
  unfold hiN; omega
theorem sgn_of {v : Int} (h : I64 v) : v / 9223372036854775808 = sgn v := by
  obtain ⟨_, _⟩ := h
  unfold sgn; split <;> omega
theorem hi_end {h v c h' : Int} (hv : I64 v) (hc : 0 ≤ c ∧ c ≤ 1) (hh : -1 ≤ h ∧ h ≤ 0) (e : h + sgn v + c = h') : wrap64 (wrap64 (h + v / 9223372036854775808) + wrap64 c) = h' := by
  rw [sgn_of hv, ← e]
  have : -1 ≤ sgn v ∧ sgn v ≤ 0 := by unfold sgn; split <;> omega
  have w1 : wrap64 (h + sgn v) = h + sgn v := IntWalk.wrap64_in _ (by omega)
  have w2 : wrap64 c = c := IntWalk.wrap64_in _ (by omega)
  rw [w1, w2]
  exact IntWalk.wrap64_in _ (by omega)
theorem bcell {W w1 : World} (hb : Below W.heap.size W w1) : (∀ b o, b < W.heap.size → w1.cell? ⟨b, o, none⟩ = W.cell? ⟨b, o, none⟩) ∧ (∀ b o, b < W.heap.size → w1.frozen? ⟨b, o, none⟩ = W.frozen? ⟨b, o, none⟩) :=
  ⟨fun b o h => hb.cell (p := ⟨b, o, none⟩) h, fun b o h => hb.frozen (p := ⟨b, o, none⟩) h⟩

/-- The sum of the first j of two. -/
def part (a b : Int) : Nat → Int
  | 0 => 0
  | 1 => a
  | _ => a + b
set_option maxHeartbeats 1000000 in
theorem sum_two (a b : Int) (ha : I64 a) (hb : I64 b) (w : World) (k : Nat) (hk : Blk w k 2 #[.int .i64 a, .int .i64 b]) :
    Calls Tryd.prog 60 #[.slice (some ⟨k, 0, none⟩) 2 2] w fun e w' => e = .returned (.agg #[.int .i64 (hiN (a + b)), .int .u64 (loN (a + b))]) ∧ Below w.heap.size w w' := by
  have hlt := hk.lt
  go_enter Tryd.func60, Tryd.ntmps60
  go_wp2
  go_loopw [10] (fun i wr => ∃ j : Nat, i = .int .i64 j ∧ j ≤ 2 ∧ Below w.heap.size w wr ∧ Blk wr w.heap.size 97 #[.int .i64 0, .int .u64 0] ∧ Blk wr (w.heap.size + 1) 97 #[.int .i64 (hiN (part a b j)), .int .u64 (loN (part a b j))]) (fun i _ => 2 - (intOf i).toNat)
  case atStart => exact ⟨0, rfl, by omega, ((Below.refl _ _).alloc (Nat.le_refl _) _).alloc (by simp) _, (Blk.new w 97 _).alloc _, by
    have := Blk.new (w.alloc (Obj.cells #[.int .i64 0, .int .u64 0] 97)) 97 #[.int .i64 0, .int .u64 0]
    rw [World.size_alloc] at this
    exact this⟩
  case round =>
    obtain ⟨j, rfl, hj, hbr, hr, hs⟩ := hrel
    have hkr := hk.below hbr hlt
    have c0 := hkr.cell 0
    have c1 := hkr.cell 1
    have s0 := hs.cell 0
    have s1 := hs.cell 1
    have f0 := hs.free 0
    have f1 := hs.free 1
    simp at c0 c1 s0 s1
    by_cases h2 : j = 2
    · subst h2
      have r0 := hr.cell 0
      have r1 := hr.cell 1
      have g0 := hr.free 0
      have g1 := hr.free 1
      simp at r0 r1
      have HB := Lib.hid (hbr)
      clear hr hbr hs hkr hk c0 c1
      go_wp2
      exact bodyPost_ret (v := .agg #[.int .i64 (hiN (a + b)), .int .u64 (loN (a + b))]) (by simp [results, Tryd.results60, go_sem, part, r0, r1]) rfl ⟨rfl, (HB.out.setCell (p := ⟨w.heap.size, 0, none⟩) (Nat.le_refl _) _).setCell (p := ⟨w.heap.size, 1, none⟩) (Nat.le_refl _) _⟩
    · have hv : ∃ v, I64 v ∧ part a b (j + 1) = part a b j + v ∧ wr.cell? ⟨k, j, none⟩ = some (.int .i64 v) := by
        obtain rfl | rfl : j = 0 ∨ j = 1 := by omega
        · exact ⟨a, ha, by simp [part], c0⟩
        · exact ⟨b, hb, by simp [part], c1⟩
      obtain ⟨v, hv1, hv2, hv3⟩ := hv
      have hwv := word_of hv1
      have hl0 := lo_pos (part a b j)
      have hw0 := word_pos hv1
      have hadd := fun w => add64 _ _ hl0 hw0 w
      have hls := lo_step (part a b j) v
      have hhs := hi_step (part a b j) v
      have hpr := hi_in (s := part a b j) (by obtain ⟨_, _⟩ := ha; obtain ⟨_, _⟩ := hb; obtain rfl | rfl : j = 0 ∨ j = 1 := by omega
                                              all_goals simp only [part]
                                              all_goals omega) (by obtain ⟨_, _⟩ := ha; obtain ⟨_, _⟩ := hb; obtain rfl | rfl : j = 0 ∨ j = 1 := by omega
                                                                   all_goals simp only [part]
                                                                   all_goals omega)
      have hcar0 := carry_in (part a b j) v hv1
      unfold carry at hcar0
      rw [hls] at hadd
      rw [← hv2] at hadd hhs
      generalize hcar : (loN (part a b j) + word v) / 18446744073709551616 = car at *
      clear hcar hls
      generalize part a b j = s at *
      generalize hs' : part a b (j + 1) = s' at *
      have HB := Lib.hid hbr
      have HR := Lib.hid hr
      have HS := Lib.hid hs
      clear hr hbr hs hkr hk c0 c1 hv2
      have hj2 : (j : Int) < 2 := by omega
      have HA := Lib.hid hadd
      clear hadd
      have HE := Lib.hid (hi_end hv1 hcar0 hpr hhs)
      clear hhs hpr hcar0
      go_wp2_with (simp only [HA.out])
      rw [HE.out]
      refine ⟨⟨j + 1, by go_num, by omega, (HB.out.setCell (p := ⟨w.heap.size + 1, 0, none⟩) (Nat.le_add_right _ _) _).setCell (p := ⟨w.heap.size + 1, 1, none⟩) (Nat.le_add_right _ _) _, ?_, ?_⟩, by simp [intOf]; omega⟩
      · exact (HR.out.setOther 0 _ (by omega)).setOther 1 _ (by omega)
      · rw [hs']
        exact (HS.out.set 0 _).set 1 _

set_option maxHeartbeats 1000000 in
theorem narrow_any (s : Int) (h1 : -18446744073709551616 ≤ s) (h2 : s ≤ 18446744073709551614) (w : World) :
    Calls Tryd.prog 61 #[.agg #[.int .i64 (hiN s), .int .u64 (loN s)]] w fun e w' => e = .returned (.tuple #[.int .i64 (sumN s 0), .int .i64 (sumE s 0)]) ∧ Below w.heap.size w w' := by
  by_cases hok : -9223372036854775808 ≤ s ∧ s ≤ 9223372036854775807
  · have e1 : wrap64 (loN s) = s := by unfold wrap64 loN; omega
    have e2 : (hiN s != s / 9223372036854775808) = false := by unfold hiN; simp; omega
    have e3 : sumN s 0 = s := by unfold sumN sumOk; rw [if_pos (by simp; omega)]; omega
    have e4 : sumE s 0 = 0 := by unfold sumE sumOk; rw [if_pos (by simp; omega)]
    rw [e3, e4]
    generalize hiN s = hi at *
    generalize loN s = lo at *
    clear e3 e4
    go_enter Tryd.func61, Tryd.ntmps61
    go_wp2
    go_ret2
    exact ⟨ret_pair e1 rfl, (Below.refl _ _).alloc (Nat.le_refl _) _⟩
  · have e2 : (hiN s != wrap64 (loN s) / 9223372036854775808) = true := by unfold hiN loN wrap64; simp; omega
    have e3 : sumN s 0 = 0 := by unfold sumN sumOk; rw [if_neg (by simp; omega)]
    have e4 : sumE s 0 = 11 := by unfold sumE sumOk; rw [if_neg (by simp; omega)]
    rw [e3, e4]
    generalize hiN s = hi at *
    generalize loN s = lo at *
    clear e3 e4
    go_enter Tryd.func61, Tryd.ntmps61
    go_wp2
    go_ret2
    exact ⟨rfl, (Below.refl _ _).alloc (Nat.le_refl _) _⟩

theorem sum_zero (a b : Int) : sumN (a + b) 0 = sumN a b ∧ sumE (a + b) 0 = sumE a b := by
  unfold sumN sumE sumOk
  rw [Int.add_zero]
  exact ⟨rfl, rfl⟩
set_option maxHeartbeats 1000000 in
/-- ints.Add. -/
theorem add_any (a b : Int) (ha : I64 a) (hb : I64 b) (w : World) : Calls Tryd.prog 49 #[.int .i64 a, .int .i64 b] w fun e w' => e = .returned (.tuple #[.int .i64 (sumN a b), .int .i64 (sumE a b)]) ∧ Below w.heap.size w w' := by
  have HN := Lib.hid (narrow_any (a + b) (by obtain ⟨_, _⟩ := ha; obtain ⟨_, _⟩ := hb; omega) (by obtain ⟨_, _⟩ := ha; obtain ⟨_, _⟩ := hb; omega))
  have HS := Lib.hid (sum_two a b ha hb)
  rw [(sum_zero a b).1, (sum_zero a b).2] at HN
  generalize hiN (a + b) = hi at *
  generalize loN (a + b) = lo at *
  generalize sumN a b = n at *
  generalize sumE a b = m at *
  go_enter Tryd.func49, Tryd.ntmps49
  go_wp2_with fail
  refine (HS.out _ _ (Blk.new w 2 _)).mono ?_
  rintro e w1 ⟨rfl, hb1⟩
  go_wp2_with fail
  refine (HN.out _).mono ?_
  rintro e w2 ⟨rfl, hb2⟩
  go_wp2_with fail
  go_ret2
  exact ⟨rfl, (((Below.refl _ _).alloc (Nat.le_refl _) _).trans (hb1.mono (by simp))).trans (hb2.mono (by have := hb1.size; simp at this; omega))⟩
end Go.Proofs.YtjilfgkoibbcnaaDoor
