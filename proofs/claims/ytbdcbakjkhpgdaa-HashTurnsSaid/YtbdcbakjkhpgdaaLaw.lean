/- What every law asks first; the first bytes of a text. -/
import Derived.Test.YtbdcbakjkhpgdaaMath
import Derived.Deep.DeepCutAuto
namespace Go.Proofs.Ytbdcbakjkhpgdaa
open Go.RowKit Go.Shelf
attribute [local go_sem] Oper.semAt_some

theorem slot_one : slotS 21 8 = .tuple #[.int .i64 5, .int .i64 0] ∧ slotS 21 6 = .tuple #[.int .i64 0, .int .i64 2] := by
  constructor
  · unfold slotS; rw [if_pos (by decide +kernel)]; rfl
  · unfold slotS; rw [if_neg (by decide +kernel)]

set_option maxRecDepth 100000 in
set_option maxHeartbeats 2000000 in
theorem shown_any (w : World) : Calls Try.prog 9 #[] w fun e w' => e = .returned (.bool true) ∧ Below w.heap.size w w' := by
  have H1 := fun w => Lib.hid (slot_any 21 (by decide) 8 w)
  have H2 := fun w => Lib.hid (slot_any 21 (by decide) 6 w)
  have H3 := fun w => Lib.hid (turn_any 1 (by decide) w)
  have H4 := fun w => Lib.hid (sizeFor_any 5 w)
  have H5 := fun w => Lib.hid (sum_any 0 (by decide) ⟨#[]⟩ (by decide) w)
  have H6 := fun w => Lib.hid (refSum_any 0 (by decide) ⟨#[]⟩ (by decide) w)
  rw [slot_one.1] at H1
  rw [slot_one.2] at H2
  rw [show turnN 1 = 2147483648 by decide +kernel] at H3
  rw [show sizeS 5 = 8 by decide +kernel] at H4
  generalize sumN 0 (⟨#[]⟩ : ByteArray).data.toList = s at *
  go_enter Try.func9, Try.ntmps9
  go_wp2_with fail
  refine (H1 _).out.mono ?_
  rintro e w1 ⟨rfl, hb1⟩
  go_wp2_with fail
  refine (H2 _).out.mono ?_
  rintro e w2 ⟨rfl, hb2⟩
  go_wp2_with fail
  refine (H3 _).out.mono ?_
  rintro e w3 ⟨rfl, hb3⟩
  go_wp2_with fail
  refine (H4 _).out.mono ?_
  rintro e w4 ⟨rfl, hb4⟩
  go_wp2_with fail
  refine (H5 _).out.mono ?_
  rintro e w5 ⟨rfl, hb5⟩
  go_wp2_with fail
  refine (H6 _).out.mono ?_
  rintro e w6 ⟨rfl, rfl⟩
  go_wp2
  go_ret
  exact ⟨rfl, (((hb1.trans (hb2.mono hb1.size)).trans (hb3.mono (hb1.trans (hb2.mono hb1.size)).size)).trans (hb4.mono ((hb1.trans (hb2.mono hb1.size)).trans (hb3.mono (hb1.trans (hb2.mono hb1.size)).size)).size)).trans (hb5.mono (((hb1.trans (hb2.mono hb1.size)).trans (hb3.mono (hb1.trans (hb2.mono hb1.size)).size)).trans (hb4.mono ((hb1.trans (hb2.mono hb1.size)).trans (hb3.mono (hb1.trans (hb2.mono hb1.size)).size)).size)).size)⟩

/-- The first hundred bytes. -/
def cutS (s : ByteArray) : ByteArray := s.extract 0 (min s.size 100)
theorem cutS_size (s : ByteArray) : (cutS s).size ≤ 100 := by unfold cutS; simp; omega
theorem cut_any (s : ByteArray) (hs : s.size ≤ 9223372036854775807) (w : World) : Calls Try.prog 13 #[.string s] w fun e w' => e = .returned (.string (cutS s)) ∧ w' = w := by
  by_cases h : 100 < s.size
  · have hf : cutS s = s.extract 0 100 := by unfold cutS; rw [Nat.min_eq_right (by omega)]
    have HF := Lib.hid hf
    have h1 : (100 : Int) < s.size := by omega
    clear hf
    go_enter Try.func13, Try.ntmps13
    go_wp2
    go_ret
    exact ⟨by rw [HF.out]; rfl, rfl⟩
  · have hf : cutS s = s := by unfold cutS; rw [Nat.min_eq_left (by omega), ByteArray.extract_zero_size]
    have HF := Lib.hid hf
    have h1 : (s.size : Int) ≤ 100 := by omega
    clear hf
    go_enter Try.func13, Try.ntmps13
    go_wp2
    go_ret
    exact ⟨by rw [HF.out]; rfl, rfl⟩
end Go.Proofs.Ytbdcbakjkhpgdaa
