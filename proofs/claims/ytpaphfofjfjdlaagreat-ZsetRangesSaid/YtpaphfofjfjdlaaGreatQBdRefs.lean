/- The reference's ranges and order. -/
import Derived.Test.YtpaphfofjfjdlaaGreatQBdQuiet
import Derived.Handy
namespace Go.Proofs.YtpaphfofjfjdlaaGreat.Bd
open Go.RowKit
attribute [local go_sem] Oper.semAt_some

theorem lt_step {x y : List UInt8} {i : Nat} (hx : i < x.length) (hy : i < y.length) : (x.drop i < y.drop i) ↔ (x[i] < y[i] ∨ x[i] = y[i] ∧ x.drop (i + 1) < y.drop (i + 1)) := by
  rw [List.drop_eq_getElem_cons hx, List.drop_eq_getElem_cons hy, List.cons_lt_cons_iff]
theorem lt_end {x y : List UInt8} {i : Nat} (hx : i ≤ x.length) (hy : i ≤ y.length) (h : i = x.length ∨ i = y.length) : (x.drop i < y.drop i) ↔ x.length < y.length := by
  rcases h with rfl | rfl
  · rw [List.drop_length]
    cases hd : y.drop x.length with
    | nil =>
      have := List.drop_eq_nil_iff.1 hd
      simp; omega
    | cons u v =>
      have : x.length < y.length := by
        have h1 : (y.drop x.length).length = v.length + 1 := by rw [hd]; rfl
        rw [List.length_drop] at h1
        omega
      simp [this]
  · rw [List.drop_length]
    simp; omega

set_option maxRecDepth 100000 in
theorem less_any (a b : ByteArray) (ha : a.size ≤ 281474976710656) (hb : b.size ≤ 281474976710656) (w : World) : Calls Tryz.prog 59 #[.string a, .string b] w fun e w' => e = .returned (.bool (decide (a.data.toList < b.data.toList))) ∧ Below w.heap.size w w' := by
  obtain ⟨bv, hbv⟩ : ∃ bv, bv = decide (a.data.toList < b.data.toList) := ⟨_, rfl⟩
  have HBV := Lib.hid hbv
  rw [← hbv]
  clear hbv
  go_enter Tryz.func59, Tryz.ntmps59
  go_wp2
  go_loopw [5] (fun i wr => ∃ j : Nat, i = .int .i64 j ∧ j ≤ a.size ∧ j ≤ b.size ∧ Hid ((a.data.toList.drop j < b.data.toList.drop j) ↔ (a.data.toList < b.data.toList)) ∧ Below w.heap.size w wr) (fun i _ => a.size - (intOf i).toNat)
  case atStart => exact ⟨0, rfl, by omega, by omega, Lib.hid (by rw [List.drop_zero, List.drop_zero]), Below.refl _ _⟩
  case round =>
    obtain ⟨j, rfl, hja, hjb, HI, hbel⟩ := hrel
    have HW := Lib.hid hbel
    clear hbel
    by_cases hlt : j < a.size ∧ j < b.size
    · obtain ⟨h1, h2⟩ := hlt
      have hst := lt_step (x := a.data.toList) (y := b.data.toList) (i := j) (by simpa using h1) (by simpa using h2)
      have HST := Lib.hid hst
      clear hst
      by_cases he : a[j] = b[j]
      · have he2 : ((a[j].toNat : Int) == (b[j].toNat : Int)) = true := by rw [he]; simp
        have HE := Lib.hid he
        clear he
        go_wp2
        go_quiet (fail)
        go_wp2
        refine ⟨⟨j + 1, by go_num, by omega, by omega, Lib.hid ?_, HW.out.trans ⟨rfl, rfl, rfl, Nat.le_refl _, fun _ _ => rfl⟩⟩, by simp [intOf]; omega⟩
        rw [← HI.out, HST.out]
        have h1 : a.data.toList[j]'(by simpa using h1) = b.data.toList[j]'(by simpa using h2) := HE.out
        simp [h1]
      · have he2 : ((a[j].toNat : Int) == (b[j].toNat : Int)) = false := by
          rw [beq_eq_false_iff_ne]
          intro e
          exact he (UInt8.toNat_inj.1 (by omega))
        have HE := Lib.hid he
        clear he
        go_wp2
        go_quiet (fail)
        go_wp2
        go_quiet (fail)
        go_wp2
        go_returns
        refine ⟨?_, HW.out.trans ⟨rfl, rfl, rfl, Nat.le_refl _, fun _ _ => rfl⟩⟩
        have hv : decide (a[j].toNat < b[j].toNat) = bv := by
          rw [HBV.out, decide_eq_decide, ← HI.out, HST.out]
          have hne : ¬ a.data.toList[j]'(by simpa using h1) = b.data.toList[j]'(by simpa using h2) := HE.out
          simp only [hne, false_and, or_false]
          exact UInt8.lt_iff_toNat_lt.symm
        rw [← hv]
        rfl
    · have hex : (a.size : Int) ≤ j ∨ ((j : Int) < a.size ∧ (b.size : Int) ≤ j) := by omega
      have HX := Lib.hid (show decide (a.size < b.size) = bv by
        have h := lt_end (x := a.data.toList) (y := b.data.toList) (i := j) (by simpa using hja) (by simpa using hjb) (by simp; omega)
        rw [HBV.out, decide_eq_decide, ← HI.out, h]
        simp)
      clear hlt
      rcases hex with hex | ⟨hex, hex2⟩
      all_goals (
        go_wp2
        go_returns
        refine ⟨?_, HW.out⟩
        rw [← HX.out]
        rfl)


def fromR (n a : Int) (o : Bool) (i : Int) : Bool := decide (i < 0 ∨ i = 0 ∧ (a < n ∨ n = a ∧ o = false))
def toR (n a : Int) (o : Bool) (i : Int) : Bool := decide (0 < i ∨ i = 0 ∧ (n < a ∨ n = a ∧ o = false))

set_option maxRecDepth 100000 in
set_option maxHeartbeats 2000000 in
theorem refIn_any (n a b : Int) (oa ob : Bool) (ia ib : Int) (w : World) : Calls Tryz.prog 45 #[.int .i64 n, .agg #[.int .i64 a, .bool oa, .int .i64 ia], .agg #[.int .i64 b, .bool ob, .int .i64 ib]] w fun e w' => e = .returned (.bool (fromR n a oa ia && toR n b ob ib)) ∧ Below w.heap.size w w' := by
  obtain ⟨A, hA⟩ : ∃ A, A = fromR n a oa ia := ⟨_, rfl⟩
  obtain ⟨B, hB⟩ : ∃ B, B = toR n b ob ib := ⟨_, rfl⟩
  rw [← hA, ← hB]
  have HA := Lib.hid hA
  have HB := Lib.hid hB
  clear hA hB
  go_enter Tryz.func45, Tryz.ntmps45
  go_upto_region 1 with (fail)
  go_cut [7] from 9 to 33 (fun v wx => v = .bool A ∧ wx = (w.alloc (.cells #[.int .i64 a, .bool oa, .int .i64 ia] 51)).alloc (.cells #[.int .i64 b, .bool ob, .int .i64 ib] 51))
  case first =>
    by_cases h1 : ia < 0
    · go_wp2
      go_meet
      refine ⟨congrArg Value.bool ?_, rfl⟩
      rw [HA.out]
      unfold fromR
      simp; omega
    · by_cases h2 : ia = 0
      · have e2 : (ia == 0) = true := by simpa using h2
        have H2 := Lib.hid h2
        clear h2
        by_cases h3 : a < n
        · go_wp2
          go_meet
          refine ⟨congrArg Value.bool ?_, rfl⟩
          rw [HA.out]
          unfold fromR
          have := H2.out
          simp; omega
        · by_cases h4 : n = a
          · have e4 : (n == a) = true := by simpa using h4
            have H4 := Lib.hid h4
            clear h4
            go_wp2
            go_meet
            refine ⟨congrArg Value.bool ?_, rfl⟩
            rw [HA.out]
            unfold fromR
            have := H2.out
            have := H4.out
            cases oa <;> simp <;> omega
          · have e4 : (n == a) = false := by simpa using h4
            go_wp2
            go_meet
            refine ⟨congrArg Value.bool ?_, rfl⟩
            rw [HA.out]
            unfold fromR
            cases oa <;> simp <;> omega
      · have e2 : (ia == 0) = false := by simpa using h2
        go_wp2
        go_meet
        refine ⟨congrArg Value.bool ?_, rfl⟩
        rw [HA.out]
        unfold fromR
        cases oa <;> simp <;> omega
  case rest =>
    obtain ⟨rfl, rfl⟩ := hcut
    go_upto_region 2 with (fail)
    go_cut [8] from 34 to 58 (fun v wx => v = .bool B ∧ wx = (w.alloc (.cells #[.int .i64 a, .bool oa, .int .i64 ia] 51)).alloc (.cells #[.int .i64 b, .bool ob, .int .i64 ib] 51))
    case first =>
      by_cases h1 : 0 < ib
      · go_wp2
        go_meet
        refine ⟨congrArg Value.bool ?_, rfl⟩
        rw [HB.out]
        unfold toR
        simp; omega
      · by_cases h2 : ib = 0
        · have e2 : (ib == 0) = true := by simpa using h2
          have H2 := Lib.hid h2
          clear h2
          by_cases h3 : n < b
          · go_wp2
            go_meet
            refine ⟨congrArg Value.bool ?_, rfl⟩
            rw [HB.out]
            unfold toR
            have := H2.out
            simp; omega
          · by_cases h4 : n = b
            · have e4 : (n == b) = true := by simpa using h4
              have H4 := Lib.hid h4
              clear h4
              go_wp2
              go_meet
              refine ⟨congrArg Value.bool ?_, rfl⟩
              rw [HB.out]
              unfold toR
              have := H2.out
              have := H4.out
              cases ob <;> simp <;> omega
            · have e4 : (n == b) = false := by simpa using h4
              go_wp2
              go_meet
              refine ⟨congrArg Value.bool ?_, rfl⟩
              rw [HB.out]
              unfold toR
              cases ob <;> simp <;> omega
        · have e2 : (ib == 0) = false := by simpa using h2
          go_wp2
          go_meet
          refine ⟨congrArg Value.bool ?_, rfl⟩
          rw [HB.out]
          unfold toR
          cases ob <;> simp <;> omega
    case rest =>
      obtain ⟨rfl, rfl⟩ := hcut
      clear HA HB
      cases A
      all_goals go_wp2
      all_goals go_ret
      all_goals exact ⟨rfl, ((Below.refl _ _).alloc (Nat.le_refl _) _).alloc (by simp) _⟩
end Go.Proofs.YtpaphfofjfjdlaaGreat.Bd
