/- The functions that read: a score, how many, an entry at a place. -/
import Derived.Test.YtioidnfmpbdmhaaRows
import Derived.Test.YtioidnfmpbdmhaaShelf
import Derived.RangeFuncNested
import Derived.RangeFuncBound
import Derived.RangeFuncCalls
import Derived.RangeFuncLeaves
import Derived.RangeFuncFrom
import Derived.Shelf.Abstract
import Derived.Shelf.RegionOpen
import Derived.WalkKit
import Derived.WalkSpells
import Derived.WalkLawsBesides
import Derived.OwnWalkIn
import Derived.TacticsInMore
import Derived.LoopNIn
import Derived.LoopIn
import Derived.Lib.Hide
import Derived.Deep.RegionWith
import Derived.Deep.QuietTactic
import Derived.BigQuiet
import Derived.BigRegion
import Derived.WalkSmall
import Derived.Handy
namespace Go.Proofs.Ytioidnfmpbdmhaa
open Go.RowKit Go.Shelf
attribute [local go_sem] Oper.semAt_some

theorem heap_at {w : World} {o : Obj} {k : Nat} (h : k = w.heap.size) : (w.alloc o).heap[k]? = some o := by subst h; exact heap_alloc_new w o

/-- A byte of a text; nought behind its end. -/
def byte (p : ByteArray) (i : Nat) : Nat := (p.data.toList.getD i 0).toNat
theorem byte_lt (p : ByteArray) (i : Nat) : byte p i < 256 := UInt8.toNat_lt _
theorem byte_eq (p : ByteArray) (i : Nat) (h : i < p.size) : p[i].toNat = byte p i := by
  have h2 : i < p.data.toList.length := by rw [Array.length_toList]; exact h
  unfold byte
  rw [List.getD_eq_getElem?_getD, List.getElem?_eq_getElem h2, Array.getElem_toList]
  rfl

theorem or_low (x : Int) (b : Nat) (hb : b < 256) : bits .or .i64 (wrap64 (x * 256)) (wrap64 b) = wrap64 (x * 256 + b) := by
  have h1 : ∀ n : Int, IntKind.i64.wrap n = wrap64 n := fun n => by
    simp [IntKind.wrap, IntKind.bits, IntKind.signed, wrap64]
    split <;> omega
  have hw : ∀ n : Int, BitVec.ofInt 64 (wrap64 n) = BitVec.ofInt 64 n := fun n => by
    apply BitVec.eq_of_toNat_eq
    simp only [BitVec.toNat_ofInt, wrap64]
    congr 1
    omega
  have hx : BitVec.ofInt 64 (x * 256) = BitVec.ofInt 64 x <<< 8 := by
    apply BitVec.eq_of_toNat_eq
    simp only [BitVec.toNat_ofInt, BitVec.toNat_shiftLeft, Nat.shiftLeft_eq]
    omega
  have hz : BitVec.ofInt 64 (x * 256) &&& BitVec.ofInt 64 (b : Int) = 0#64 := by
    rw [hx]
    apply BitVec.eq_of_getLsbD_eq
    intro i hi
    rw [BitVec.getLsbD_and, BitVec.getLsbD_shiftLeft]
    by_cases h8 : i < 8
    · simp [h8]
    · have : (BitVec.ofInt 64 (b : Int)).getLsbD i = false := by
        rw [BitVec.ofInt_natCast, BitVec.getLsbD_ofNat]
        rw [Nat.testBit_lt_two_pow (Nat.lt_of_lt_of_le hb (Nat.pow_le_pow_right (n := 2) (i := 8) (by decide) (show 8 ≤ i by omega)))]
        simp
      rw [this, Bool.and_false, BitVec.getLsbD_zero]
  unfold bits
  rw [h1]
  show wrap64 ((BitVec.ofInt 64 (wrap64 (x * 256)) ||| BitVec.ofInt 64 (wrap64 b)).toNat : Int) = _
  rw [hw, hw, ← BitVec.add_eq_or_of_and_eq_zero _ _ hz]
  simp only [BitVec.toNat_add, BitVec.toNat_ofInt, wrap64]
  omega
theorem or_small (a b : Nat) (ha : a < 256) (hb : b < 256) : bits .or .i64 ((a : Int) * 256) b = (a * 256 + b : Nat) := by
  have := or_low a b hb
  rw [show wrap64 ((a : Int) * 256) = (a : Int) * 256 by unfold wrap64; omega, show wrap64 (b : Int) = b by unfold wrap64; omega, show wrap64 ((a : Int) * 256 + b) = (a * 256 + b : Nat) by unfold wrap64; omega] at this
  exact this

def countS (p : ByteArray) : Int := if p.size < 2 then -1 else if 200 < byte p 0 * 256 + byte p 1 then -1 else (byte p 0 * 256 + byte p 1 : Nat)

def scoreL (l : List UInt8) : Int := l.foldl (fun m b => wrap64 (m * 256 + b.toNat)) 0
theorem scoreL_take (p : ByteArray) (k : Nat) (h : k < p.size) : scoreL (p.data.toList.take (k + 1)) = wrap64 (scoreL (p.data.toList.take k) * 256 + byte p k) := by
  have h2 : k < p.data.toList.length := by rw [Array.length_toList]; exact h
  rw [List.take_succ_eq_append_getElem h2]
  unfold scoreL
  rw [List.foldl_append]
  simp only [List.foldl_cons, List.foldl_nil]
  rw [← byte_eq p k h, Array.getElem_toList]
  rfl

set_option maxHeartbeats 1000000 in
theorem count_any (p : ByteArray) (hp : p.size ≤ 281474976710656) (w : World) :
    Calls Try.prog 34 #[.string p] w fun e w' => e = .returned (.int .i64 (countS p)) ∧ Below w.heap.size w w' := by
  go_enter Try.func34, Try.ntmps34
  by_cases h2 : p.size < 2
  · go_wp2
    go_ret
    exact ⟨by simp [countS, h2], Below.refl _ _⟩
  · have h0 : 0 < p.size := by omega
    have h1 : 1 < p.size := by omega
    have e0 := byte_eq p 0 h0
    have e1 := byte_eq p 1 h1
    have l0 := byte_lt p 0
    have l1 := byte_lt p 1
    have hor := or_small (byte p 0) (byte p 1) l0 l1
    have HC : countS p = if 200 < byte p 0 * 256 + byte p 1 then (-1 : Int) else ((byte p 0 * 256 + byte p 1 : Nat) : Int) := by unfold countS; rw [if_neg h2]
    have HD := Lib.hid HC
    clear HC
    generalize byte p 0 * 256 + byte p 1 = n at *
    go_wp2
    go_region
    all_goals go_wp2
    · have hn : 200 < n := by omega
      go_ret
      rw [HD.out, if_pos hn]
      exact ⟨rfl, (Below.refl _ _).drew⟩
    · have hn : ¬ 200 < n := by omega
      go_ret
      rw [HD.out, if_neg hn]
      exact ⟨rfl, (Below.refl _ _).drew⟩

theorem score_any (p : ByteArray) (hp : p.size ≤ 281474976710656) (w : World) :
    Calls Try.prog 46 #[.string p] w fun e w' => e = .returned (.int .i64 (scoreL p.data.toList)) ∧ w' = w := by
  go_enter Try.func46, Try.ntmps46
  go_wp2
  go_loopw [3, 7] (fun n i wr => ∃ (k : Nat), i = .int .i64 k ∧ k ≤ p.size ∧ n = .int .i64 (scoreL (p.data.toList.take k)) ∧ wr = w)
    (fun _ i _ => p.size - (intOf i).toNat)
  case atStart => exact ⟨0, rfl, by omega, rfl, rfl⟩
  case round =>
    obtain ⟨k, rfl, hk, rfl, rfl⟩ := hrel
    by_cases hlt : k < p.size
    · have HS := Lib.hid (scoreL_take p k hlt)
      generalize scoreL (p.data.toList.take k) = m at *
      have he := byte_eq p k hlt
      go_wp2
      refine ⟨⟨k + 1, by go_num, hlt, ?_, trivial⟩, by simp [intOf]; omega⟩
      rw [HS.out, or_low _ _ (byte_lt p k)]
    · obtain rfl : k = p.size := by omega
      go_wp2
      go_ret
      rw [List.take_of_length_le (by rw [Array.length_toList]; exact Nat.le_refl _)]
      exact ⟨rfl, rfl⟩

/-- An entry, and where its bytes begin and end. -/
structure Cut where
  m : ByteArray
  s : Int
  fr : Nat
  to : Nat
def Cut.val (c : Cut) : Value := .agg #[.string c.m, .int .i64 c.s, .int .i64 c.fr, .int .i64 c.to]
def noCut : Value := .agg #[.string ⟨#[]⟩, .int .i64 0, .int .i64 0, .int .i64 0]
def cutV : Option Cut → Value
  | none => noCut
  | some c => c.val

theorem ext_list (p : ByteArray) (a k : Nat) : (p.extract a (a + k)).data.toList = (p.data.toList.drop a).take k := by
  rw [ByteArray.data_extract, Array.toList_extract]
  simp

/-- The entry whose bytes begin at a place. -/
def begunS (p : ByteArray) (k : Nat) : Option Cut :=
  if k < 2 ∨ p.size ≤ k then none else if 64 < byte p k ∨ p.size < k + byte p k + 10 then none else
    some ⟨p.extract (k + 1) (k + 1 + byte p k), scoreL ((p.data.toList.drop (k + 1 + byte p k)).take 8), k, k + byte p k + 10⟩
def begunI (p : ByteArray) (k : Int) : Option Cut := if k < 0 then none else begunS p k.toNat
def endedS (p : ByteArray) (to : Nat) : Option Cut := begunI p ((to : Int) - 1 - byte p (to - 1))

set_option maxHeartbeats 2000000 in
theorem begun_any (p : ByteArray) (hp : p.size ≤ 281474976710656) (k : Int) (hk : -1000 ≤ k) (hk2 : k ≤ 9000000000000000) (w : World) :
    Calls Try.prog 41 #[.string p, .int .i64 k] w fun e w' => e = .returned (cutV (begunI p k)) ∧ Below w.heap.size w w' := by
  by_cases hk0 : k < 2
  · have HB : begunI p k = none := by unfold begunI begunS; split; rfl; rw [if_pos (by omega)]
    rw [HB]
    go_enter Try.func41, Try.ntmps41
    go_wp2
    go_returns
    exact ⟨rfl, (Below.refl _ _).alloc (Nat.le_refl _) _⟩
  · obtain ⟨i, rfl⟩ : ∃ i : Nat, k = (i : Int) := ⟨k.toNat, by omega⟩
    rw [show begunI p (i : Int) = begunS p i by unfold begunI; rw [if_neg (by omega)]; rfl]
    by_cases hi : i < p.size
    · have hb := byte_eq p i hi
      have hl := byte_lt p i
      have HB : begunS p i = if 64 < byte p i ∨ p.size < i + byte p i + 10 then none else some ⟨p.extract (i + 1) (i + 1 + byte p i), scoreL ((p.data.toList.drop (i + 1 + byte p i)).take 8), i, i + byte p i + 10⟩ := by
        unfold begunS; rw [if_neg (by omega)]
      rw [HB]
      clear HB
      generalize byte p i = n at *
      by_cases hc : 64 < n ∨ p.size < i + n + 10
      · rw [if_pos hc]
        go_enter Try.func41, Try.ntmps41
        go_wp2
        all_goals go_returns
        all_goals exact ⟨rfl, (Below.refl _ _).alloc (Nat.le_refl _) _⟩
      · rw [if_neg hc]
        have hq1 : i + 1 + n ≤ p.size := by omega
        have hq2 : i + 1 + n + 8 ≤ p.size := by omega
        have hq : (p.extract (i + 1 + n) (i + 1 + n + 8)).size ≤ 281474976710656 := by simp; omega
        have hsc := score_any _ hq
        rw [ext_list] at hsc
        have HS := fun w => Lib.hid (hsc w)
        clear hsc
        have g1 : IntKind.i64.wrap ((i : Int) + 1) = (i : Int) + 1 := IntWalk.i64_in _ (by omega)
        have g2 : IntKind.i64.wrap ((i : Int) + 1 + n + 8) = (i : Int) + 1 + n + 8 := IntWalk.i64_in _ (by omega)
        have r1 := fun W : World => run_slice_string (P := Try.prog) W 9 p .i64 .i64 ((i : Int) + 1) ((i : Int) + 1 + n) Try.underlying9 (by omega) (by omega) (by omega)
        have r2 := fun W : World => run_slice_string (P := Try.prog) W 9 p .i64 .i64 ((i : Int) + 1 + n) ((i : Int) + 1 + n + 8) Try.underlying9 (by omega) (by omega) (by omega)
        rw [show ((i : Int) + 1).toNat = i + 1 by omega, show ((i : Int) + 1 + n).toNat = i + 1 + n by omega] at r1
        rw [show ((i : Int) + 1 + n + 8).toNat = i + 1 + n + 8 by omega, show ((i : Int) + 1 + n).toNat = i + 1 + n by omega] at r2
        go_enter Try.func41, Try.ntmps41
        go_wp2
        go_region_with ((go_at_call 46); (refine (HS _).out.mono ?_); (rintro e w' ⟨rfl, rfl⟩))
        all_goals go_wp2
        all_goals go_returns
        all_goals refine ⟨?_, ((Below.refl _ _).alloc (Nat.le_refl _) _).drew⟩
        all_goals show _ = Ending.returned (Value.agg #[Value.string (p.extract (i + 1) (i + 1 + n)), Value.int .i64 (scoreL ((p.data.toList.drop (i + 1 + n)).take 8)), Value.int .i64 (i : Int), Value.int .i64 ((i + n + 10 : Nat) : Int)])
        all_goals rw [show ((i + n + 10 : Nat) : Int) = (i : Int) + 1 + n + 8 + 1 by omega]
    · have HB : begunS p i = none := by unfold begunS; rw [if_pos (by omega)]
      rw [HB]
      go_enter Try.func41, Try.ntmps41
      go_wp2
      go_returns
      exact ⟨rfl, (Below.refl _ _).alloc (Nat.le_refl _) _⟩

end Go.Proofs.Ytioidnfmpbdmhaa
