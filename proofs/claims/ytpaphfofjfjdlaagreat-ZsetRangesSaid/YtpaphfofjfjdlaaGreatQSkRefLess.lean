/- The reference's order. -/
import Derived.Test.YtpaphfofjfjdlaaGreatQSkE
namespace Go.Proofs.YtpaphfofjfjdlaaGreat.Sk
open Go.RowKit Go.Shelf
attribute [local go_sem] Oper.semAt_some

theorem lt_step {x y : List UInt8} {i : Nat} (hx : i < x.length) (hy : i < y.length) : (x.drop i < y.drop i) ↔ (x[i] < y[i] ∨ x[i] = y[i] ∧ x.drop (i + 1) < y.drop (i + 1)) := by
  rw [List.drop_eq_getElem_cons hx, List.drop_eq_getElem_cons hy, List.cons_lt_cons_iff]
theorem lt_end {x y : List UInt8} {i : Nat} (hx : i ≤ x.length) (hy : i ≤ y.length) (h : i = x.length ∨ i = y.length) : (x.drop i < y.drop i) ↔ x.length < y.length := by
  rcases h with rfl | rfl
  · rw [List.drop_length]
    cases hd : y.drop x.length with
    | nil =>
      have := List.drop_eq_nil_iff.1 hd
      simp; omega
    | cons u v =>
      have : x.length < y.length := by
        have h1 : (y.drop x.length).length = v.length + 1 := by rw [hd]; rfl
        rw [List.length_drop] at h1
        omega
      simp [this]
  · rw [List.drop_length]
    simp; omega

set_option maxRecDepth 100000 in
theorem refText_any (a b : ByteArray) (ha : a.size ≤ 281474976710656) (hb : b.size ≤ 281474976710656) (w : World) : Calls Tryz.prog 59 #[.string a, .string b] w fun e w' => e = .returned (.bool (decide (a.data.toList < b.data.toList))) ∧ Below w.heap.size w w' := by
  obtain ⟨bv, hbv⟩ : ∃ bv, bv = decide (a.data.toList < b.data.toList) := ⟨_, rfl⟩
  have HBV := Lib.hid hbv
  rw [← hbv]
  clear hbv
  go_enter Tryz.func59, Tryz.ntmps59
  go_wp2
  go_loopw [5] (fun i wr => ∃ j : Nat, i = .int .i64 j ∧ j ≤ a.size ∧ j ≤ b.size ∧ Hid ((a.data.toList.drop j < b.data.toList.drop j) ↔ (a.data.toList < b.data.toList)) ∧ Below w.heap.size w wr) (fun i _ => a.size - (intOf i).toNat)
  case atStart => exact ⟨0, rfl, by omega, by omega, Lib.hid (by rw [List.drop_zero, List.drop_zero]), Below.refl _ _⟩
  case round =>
    obtain ⟨j, rfl, hja, hjb, HI, hbel⟩ := hrel
    have HW := Lib.hid hbel
    clear hbel
    by_cases hlt : j < a.size ∧ j < b.size
    · obtain ⟨h1, h2⟩ := hlt
      have hst := lt_step (x := a.data.toList) (y := b.data.toList) (i := j) (by simpa using h1) (by simpa using h2)
      have HST := Lib.hid hst
      clear hst
      by_cases he : a[j] = b[j]
      · have he2 : ((a[j].toNat : Int) == (b[j].toNat : Int)) = true := by rw [he]; simp
        have HE := Lib.hid he
        clear he
        go_wp2
        go_quiet (fail)
        go_wp2
        refine ⟨⟨j + 1, by go_num, by omega, by omega, Lib.hid ?_, HW.out.trans ⟨rfl, rfl, rfl, Nat.le_refl _, fun _ _ => rfl⟩⟩, by simp [intOf]; omega⟩
        rw [← HI.out, HST.out]
        have h1 : a.data.toList[j]'(by simpa using h1) = b.data.toList[j]'(by simpa using h2) := HE.out
        simp [h1]
      · have he2 : ((a[j].toNat : Int) == (b[j].toNat : Int)) = false := by
          rw [beq_eq_false_iff_ne]
          intro e
          exact he (UInt8.toNat_inj.1 (by omega))
        have HE := Lib.hid he
        clear he
        go_wp2
        go_quiet (fail)
        go_wp2
        go_quiet (fail)
        go_wp2
        go_returns
        refine ⟨?_, HW.out.trans ⟨rfl, rfl, rfl, Nat.le_refl _, fun _ _ => rfl⟩⟩
        have hv : decide (a[j].toNat < b[j].toNat) = bv := by
          rw [HBV.out, decide_eq_decide, ← HI.out, HST.out]
          have hne : ¬ a.data.toList[j]'(by simpa using h1) = b.data.toList[j]'(by simpa using h2) := HE.out
          simp only [hne, false_and, or_false]
          exact UInt8.lt_iff_toNat_lt.symm
        rw [← hv]
        rfl
    · have hex : (a.size : Int) ≤ j ∨ ((j : Int) < a.size ∧ (b.size : Int) ≤ j) := by omega
      have HX := Lib.hid (show decide (a.size < b.size) = bv by
        have h := lt_end (x := a.data.toList) (y := b.data.toList) (i := j) (by simpa using hja) (by simpa using hjb) (by simp; omega)
        rw [HBV.out, decide_eq_decide, ← HI.out, h]
        simp)
      clear hlt
      rcases hex with hex | ⟨hex, hex2⟩
      all_goals (
        go_wp2
        go_returns
        refine ⟨?_, HW.out⟩
        rw [← HX.out]
        rfl)

set_option maxRecDepth 100000 in
theorem refLess_any (m m' : ByteArray) (hm : m.size ≤ 281474976710656) (hm' : m'.size ≤ 281474976710656) (s s' : Int) (w : World) : Calls Tryz.prog 64 #[.agg #[.string m, .int .i64 s], .agg #[.string m', .int .i64 s']] w fun e w' => e = .returned (.bool (lessE m s m' s')) ∧ Below w.heap.size w w' := by
  have hb : Below w.heap.size w ((w.alloc (.cells #[.string m, .int .i64 s] 48)).alloc (.cells #[.string m', .int .i64 s'] 48)) := ((Below.refl _ _).alloc (Nat.le_refl _) _).alloc (by simp) _
  have HB := Lib.hid hb
  clear hb
  have HL := fun w => refText_any m m' hm hm' w
  clear hm hm'
  have HL := fun w => Lib.hid (HL w)
  by_cases h1 : s < s'
  · go_enter Tryz.func64, Tryz.ntmps64
    go_wp2
    go_ret
    refine ⟨congrArg (fun b => Ending.returned (.bool b)) ?_, HB.out⟩
    simp [lessE, h1]
  · by_cases h : s = s'
    · have e1 : (s == s') = true := by simpa using h
      have H := Lib.hid h
      clear h
      go_enter Tryz.func64, Tryz.ntmps64
      go_wp2_with fail
      refine (HL _).out.mono ?_
      rintro e w5 ⟨rfl, hb5⟩
      have hb6 := Lib.hid (HB.out.trans (hb5.mono HB.out.size))
      clear hb5
      go_wp2_with fail
      go_ret
      refine ⟨congrArg (fun b => Ending.returned (.bool b)) ?_, hb6.out⟩
      have := H.out
      subst this
      simp [lessE]
    · have e1 : (s == s') = false := by simpa using h
      go_enter Tryz.func64, Tryz.ntmps64
      go_wp2
      go_ret
      refine ⟨congrArg (fun b => Ending.returned (.bool b)) ?_, HB.out⟩
      simp [lessE, h1, h]
end Go.Proofs.YtpaphfofjfjdlaaGreat.Sk
