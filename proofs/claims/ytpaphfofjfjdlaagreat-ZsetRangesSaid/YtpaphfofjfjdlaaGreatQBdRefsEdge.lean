/- The reference's ranges of members. -/
import Derived.Test.YtpaphfofjfjdlaaGreatQBdRefs
import Derived.Lib.Strings
namespace Go.Proofs.YtpaphfofjfjdlaaGreat.Bd
open Go.RowKit
attribute [local go_sem] Oper.semAt_some

theorem toList_inj {a b : ByteArray} (h : a.toList = b.toList) : a = b := by
  rw [Lib.toList_data, Lib.toList_data] at h
  cases a; cases b; simp_all [Array.toList_inj]
def fromRE (n a : ByteArray) (o : Bool) (i : Int) : Bool := decide (i < 0 ∨ i = 0 ∧ (a.data.toList < n.data.toList ∨ n = a ∧ o = false))
def toRE (n a : ByteArray) (o : Bool) (i : Int) : Bool := decide (0 < i ∨ i = 0 ∧ (n.data.toList < a.data.toList ∨ n = a ∧ o = false))

set_option maxRecDepth 100000 in
set_option maxHeartbeats 2000000 in
theorem refInEdge_any (n a b : ByteArray) (hn : n.size ≤ 281474976710656) (ha : a.size ≤ 281474976710656) (hb : b.size ≤ 281474976710656) (oa ob : Bool) (ia ib : Int) (w : World) : Calls Tryz.prog 48 #[.string n, .agg #[.string a, .bool oa, .int .i64 ia], .agg #[.string b, .bool ob, .int .i64 ib]] w fun e w' => e = .returned (.bool (fromRE n a oa ia && toRE n b ob ib)) ∧ Below w.heap.size w w' := by
  obtain ⟨A, hA⟩ : ∃ A, A = fromRE n a oa ia := ⟨_, rfl⟩
  obtain ⟨B, hB⟩ : ∃ B, B = toRE n b ob ib := ⟨_, rfl⟩
  rw [← hA, ← hB]
  have HA := Lib.hid hA
  have HB := Lib.hid hB
  clear hA hB
  have L1 := fun w => less_any a n ha hn w
  have L2 := fun w => less_any n b hn hb w
  clear ha hn hb
  have L1 := fun w => Lib.hid (L1 w)
  have L2 := fun w => Lib.hid (L2 w)
  go_enter Tryz.func48, Tryz.ntmps48
  go_upto_region 1 with (fail)
  go_cut [7] from 9 to 33 (fun v wx => v = .bool A ∧ Below ((w.alloc (.cells #[.string a, .bool oa, .int .i64 ia] 53)).alloc (.cells #[.string b, .bool ob, .int .i64 ib] 53)).heap.size ((w.alloc (.cells #[.string a, .bool oa, .int .i64 ia] 53)).alloc (.cells #[.string b, .bool ob, .int .i64 ib] 53)) wx)
  case first =>
    by_cases h1 : ia < 0
    · go_wp2_with fail
      go_meet
      refine ⟨congrArg Value.bool ?_, Below.refl _ _⟩
      rw [HA.out]
      unfold fromRE
      simp; omega
    · by_cases h2 : ia = 0
      · have e2 : (ia == 0) = true := by simpa using h2
        have H2 := Lib.hid h2
        clear h2
        by_cases h3 : a.data.toList < n.data.toList
        · have HL := L1
          have e3 := decide_eq_true h3
          go_wp2_with fail
          refine (HL _).out.mono ?_
          rintro e w5 ⟨rfl, hb5⟩
          obtain ⟨hc5, hf5⟩ := bcell hb5
          have hz5 := hb5.size
          simp at hz5
          go_wp2_with fail
          go_meet
          refine ⟨congrArg Value.bool ?_, hb5⟩
          rw [HA.out]
          unfold fromRE
          have := H2.out
          simp [h3, this]
        · have e3 := decide_eq_false h3
          have HL := L1
          cases h4 : (n.toList == a.toList)
          · go_wp2_with fail
            refine (HL _).out.mono ?_
            rintro e w5 ⟨rfl, hb5⟩
            obtain ⟨hc5, hf5⟩ := bcell hb5
            have hz5 := hb5.size
            simp at hz5
            go_wp2_with fail
            go_meet
            refine ⟨congrArg Value.bool ?_, hb5⟩
            rw [HA.out]
            unfold fromRE
            have := H2.out
            have h5 : ¬ n = a := fun h => by subst h; simp at h4
            cases oa <;> simp [h3, h5, this]
          · go_wp2_with fail
            refine (HL _).out.mono ?_
            rintro e w5 ⟨rfl, hb5⟩
            obtain ⟨hc5, hf5⟩ := bcell hb5
            have hz5 := hb5.size
            simp at hz5
            go_wp2_with fail
            go_meet
            refine ⟨congrArg Value.bool ?_, hb5⟩
            rw [HA.out]
            unfold fromRE
            have := H2.out
            have h5 : n = a := toList_inj (eq_of_beq h4)
            cases oa <;> simp [h5, this]
      · have e2 : (ia == 0) = false := by simpa using h2
        go_wp2_with fail
        go_meet
        refine ⟨congrArg Value.bool ?_, Below.refl _ _⟩
        rw [HA.out]
        unfold fromRE
        cases oa <;> simp <;> omega
  case rest =>
    obtain ⟨rfl, hcb⟩ := hcut
    clear HA
    have hz := hcb.size
    simp at hz
    have hB := blk3 (W := w.alloc (.cells #[.string a, .bool oa, .int .i64 ia] 53)) (W' := wc) (c0 := .string b) (c1 := .bool ob) (c2 := .int .i64 ib) (t := 53) (b := w.heap.size + 1) (by simp) hcb
    obtain ⟨b0, b1, b2⟩ := hB
    have hw0 : Below w.heap.size w wc := (((Below.refl _ _).alloc (Nat.le_refl _) _).alloc (by simp) _).trans (hcb.mono (by simp; omega))
    go_upto_region 2 with (fail)
    go_cut [8] from 34 to 58 (fun v wx => v = .bool B ∧ Below w.heap.size w wx)
    case first =>
      by_cases h1 : 0 < ib
      · go_wp2_with fail
        go_meet
        refine ⟨congrArg Value.bool ?_, hw0⟩
        rw [HB.out]
        unfold toRE
        simp; omega
      · by_cases h2 : ib = 0
        · have e2 : (ib == 0) = true := by simpa using h2
          have H2 := Lib.hid h2
          clear h2
          by_cases h3 : n.data.toList < b.data.toList
          · have HL := L2
            have e3 := decide_eq_true h3
            go_wp2_with fail
            refine (HL _).out.mono ?_
            rintro e w5 ⟨rfl, hb5⟩
            obtain ⟨hc5, hf5⟩ := bcell hb5
            have hz5 := hb5.size
            have c50 := (hc5 (w.heap.size + 1) 0 (by omega)).trans b0
            have c51 := (hc5 (w.heap.size + 1) 1 (by omega)).trans b1
            go_wp2_with fail
            go_meet
            refine ⟨congrArg Value.bool ?_, hw0.trans (hb5.mono hw0.size)⟩
            rw [HB.out]
            unfold toRE
            have := H2.out
            simp [h3, this]
          · have e3 := decide_eq_false h3
            have HL := L2
            cases h4 : (n.toList == b.toList)
            · go_wp2_with fail
              refine (HL _).out.mono ?_
              rintro e w5 ⟨rfl, hb5⟩
              obtain ⟨hc5, hf5⟩ := bcell hb5
              have hz5 := hb5.size
              have c50 := (hc5 (w.heap.size + 1) 0 (by omega)).trans b0
              have c51 := (hc5 (w.heap.size + 1) 1 (by omega)).trans b1
              go_wp2_with fail
              go_meet
              refine ⟨congrArg Value.bool ?_, hw0.trans (hb5.mono hw0.size)⟩
              rw [HB.out]
              unfold toRE
              have := H2.out
              have h5 : ¬ n = b := fun h => by subst h; simp at h4
              cases ob <;> simp [h3, h5, this]
            · go_wp2_with fail
              refine (HL _).out.mono ?_
              rintro e w5 ⟨rfl, hb5⟩
              obtain ⟨hc5, hf5⟩ := bcell hb5
              have hz5 := hb5.size
              have c50 := (hc5 (w.heap.size + 1) 0 (by omega)).trans b0
              have c51 := (hc5 (w.heap.size + 1) 1 (by omega)).trans b1
              go_wp2_with fail
              go_meet
              refine ⟨congrArg Value.bool ?_, hw0.trans (hb5.mono hw0.size)⟩
              rw [HB.out]
              unfold toRE
              have := H2.out
              have h5 : n = b := toList_inj (eq_of_beq h4)
              cases ob <;> simp [h5, this]
        · have e2 : (ib == 0) = false := by simpa using h2
          go_wp2_with fail
          go_meet
          refine ⟨congrArg Value.bool ?_, hw0⟩
          rw [HB.out]
          unfold toRE
          cases ob <;> simp <;> omega
    case rest =>
      obtain ⟨rfl, hwx⟩ := hcut
      clear HB
      cases A
      all_goals go_wp2
      all_goals go_ret
      all_goals exact ⟨rfl, hwx⟩
end Go.Proofs.YtpaphfofjfjdlaaGreat.Bd
