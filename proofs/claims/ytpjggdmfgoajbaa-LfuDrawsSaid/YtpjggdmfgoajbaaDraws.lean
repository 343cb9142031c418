/- LfuDraws: its walk. -/
import Derived.Test.YtpjggdmfgoajbaaLaws2
namespace Go.Proofs.Ytpjggdmfgoajbaa
open Go.RowKit Go.Shelf
attribute [local go_sem] Oper.semAt_some
attribute [local go_sem high] eq23
attribute [local go_sem] guard23

theorem ceil_step (k m : Int) (h : 1 ≤ m) : (k + 1 + m - 1) / m = (k + m - 1) / m + if k % m = 0 then 1 else 0 := by
  have hm : m ≠ 0 := by omega
  have e1 : (k + 1 + m - 1) / m = k / m + 1 := by
    rw [show k + 1 + m - 1 = k + m * 1 by omega, Int.add_mul_ediv_left _ _ hm]
  have hd := Int.mul_ediv_add_emod k m
  have h0 := Int.emod_nonneg k hm
  have h1 := Int.emod_lt_of_pos k (show 0 < m by omega)
  have e2 : (k + m - 1) / m = k / m + (k % m + m - 1) / m := by
    have := Int.add_mul_ediv_left (k % m + m - 1) (k / m) hm
    rw [show k % m + m - 1 + m * (k / m) = k + m - 1 by omega] at this
    omega
  rw [e1, e2]
  clear e1 e2 hd
  generalize k % m = r at *
  generalize k / m = q at *
  by_cases hz : r = 0
  · rw [if_pos hz, hz, show (0 : Int) + m - 1 = m - 1 by omega, Int.ediv_eq_zero_of_lt (by omega) (by omega)]
    omega
  · rw [if_neg hz, show r + m - 1 = (r - 1) + m * 1 by omega, Int.add_mul_ediv_left _ _ hm, Int.ediv_eq_zero_of_lt (by omega) (by omega)]
    omega
/-- How many of the draws below k let a count rise. -/
def riseN (c : Int) (k : Int) : Int := if c = 255 then 0 else (k + manyN c - 1) / manyN c
theorem riseN_zero (c : Int) : riseN c 0 = 0 := by
  unfold riseN
  split
  · rfl
  · have := many_pos c
    exact Int.ediv_eq_zero_of_lt (by omega) (by omega)
theorem riseN_step (c k : Int) : riseN c (k + 1) = riseN c k + stepN c k := by
  unfold riseN stepN
  split
  · rfl
  · exact ceil_step k (manyN c) (many_pos c)

set_option maxRecDepth 100000 in
set_option maxHeartbeats 1000000 in
/-- LfuDraws. -/
theorem draws_walk (c n : Int) (w : World) : Calls Try.prog 8 #[.int .i64 c, .int .i64 n] w fun e w' => e = .returned (.bool true) ∧ Below w.heap.size w w' := by
  have HS := fun w => Lib.hid (shown_any w)
  by_cases hc : 0 ≤ c ∧ c ≤ 255 ∧ 1 ≤ n ∧ n ≤ 3000
  · obtain ⟨c1, c2, n1, n2⟩ := hc
    have hU : I64U (c, 9) := ⟨⟨by show _ ≤ c; omega, by show c ≤ _; omega⟩, i64_small (by omega)⟩
    have hok : okB (c, 9) 9 = true := known_iff.2 ⟨c1, c2, (by decide : (0 : Int) ≤ 9), (by decide : (9 : Int) ≤ 9)⟩
    have hcn : cntU (c, 9) 9 = c := by unfold cntU; simp only; omega
    have HT := fun d h1 h2 w => Lib.hid (touch_any (c, 9) hU 9 d (i64_small (by omega)) h1 h2 w)
    unfold touchT at HT
    simp only [touchC_ok hok, touchA_ok hok, err_ok hok, hcn] at HT
    unfold valU at HT
    simp only at HT
    clear hU hok hcn
    have H01 := Lib.hid (stepN_01 c)
    have HR := Lib.hid (riseN_step c)
    have HZ := Lib.hid (riseN_zero c)
    go_enter Try.func8, Try.ntmps8
    go_wp2_with fail
    refine (HS _).out.mono ?_
    rintro e w1 ⟨rfl, hb⟩
    have B1 := Lib.hid hb
    clear hb
    go_wp2_with fail
    go_loopw [6, 7] (fun r d wr => ∃ (k : Nat), d = .int .i64 k ∧ (k : Int) ≤ n ∧ r = .int .i64 (riseN c k) ∧ 0 ≤ riseN c k ∧ riseN c k ≤ k ∧ Below w.heap.size w wr) (fun _ d _ => n.toNat - (intOf d).toNat)
    case atStart => exact ⟨0, rfl, by omega, by rw [show ((0 : Nat) : Int) = 0 from rfl, HZ.out], by rw [show ((0 : Nat) : Int) = 0 from rfl, HZ.out]; omega, by rw [show ((0 : Nat) : Int) = 0 from rfl, HZ.out]; omega, B1.out⟩
    case round =>
      obtain ⟨k, rfl, hk, rfl, r1, r2, hb⟩ := hrel
      by_cases hlt : (k : Int) < n
      · have hst := HR.out k
        obtain ⟨s1, s2⟩ := H01.out k
        have HTK := fun w => HT k (by omega) (by omega) w
        have HB := Lib.hid hb
        have hrk : riseN c ((k + 1 : Nat) : Int) = riseN c k + stepN c k := by rw [← hst]; rfl
        have HRK := Lib.hid hrk
        generalize riseN c k = r at *
        clear hst hrk hb
        rcases (show stepN c k = 0 ∨ stepN c k = 1 by omega) with hs | hs
        all_goals rw [hs] at HTK HRK
        all_goals clear hs s1 s2
        · rw [show c + 0 = c by omega] at HTK
          go_wp2_with fail
          refine (HTK _).out.mono ?_
          rintro e w2 ⟨rfl, hb⟩
          have B2 := Lib.hid (HB.out.trans (hb.mono HB.out.size))
          clear hb
          go_wp2
          go_roundw
          case rel => exact ⟨k + 1, by go_num, by omega, by rw [HRK.out]; simp, by rw [HRK.out]; omega, by rw [HRK.out]; omega, B2.out.alloc B2.out.size _⟩
          case measure => simp [intOf]; omega
        · have hgt : c < c + 1 := by omega
          go_wp2_with fail
          refine (HTK _).out.mono ?_
          rintro e w2 ⟨rfl, hb⟩
          have B2 := Lib.hid (HB.out.trans (hb.mono HB.out.size))
          clear hb
          go_wp2
          go_roundw
          case rel => exact ⟨k + 1, by go_num, by omega, by rw [HRK.out], by rw [HRK.out]; omega, by rw [HRK.out]; omega, B2.out.alloc B2.out.size _⟩
          case measure => simp [intOf]; omega
      · have hkn : (k : Int) = n := by omega
        have hrn : Hid (riseN c k = riseN c n) := Lib.hid (by rw [hkn])
        have HB := Lib.hid hb
        clear hb
        by_cases h255 : c = 255
        · have hz : riseN c k = 0 := by unfold riseN; rw [if_pos h255]
          rw [hz] at r1 r2 ⊢
          subst h255
          clear hz hrn hkn
          go_wp2
          go_ret
          exact ⟨rfl, HB.out⟩
        · have hv : riseN c n = (n + manyN c - 1) / manyN c := by unfold riseN; rw [if_neg h255]
          have h255b : (c == 255) = false := by simpa using h255
          rw [hrn.out] at r1 r2 ⊢
          by_cases h5 : 5 < c
          · have hm : manyN c = 10 * (c - 5) + 1 := by unfold manyN; omega
            rw [hm] at hv
            have HV := Lib.hid hv
            have hve : (riseN c n == (n + (10 * (c - 5) + 1) - 1) / (10 * (c - 5) + 1)) = true := by rw [hv]; simp
            generalize riseN c n = r at *
            clear hv hm hrn h255
            go_wp2
            all_goals go_ret
            all_goals refine ⟨?_, HB.out⟩
            all_goals first | rfl | (simp; done) | (simp; omega)
          · have hm : manyN c = 1 := by unfold manyN; omega
            rw [hm] at hv
            have h5' : c ≤ 5 := by omega
            have hve : riseN c n = n := by rw [hv]; omega
            rw [hve] at r1 r2 ⊢
            clear hv hve hm hrn h255
            go_wp2
            all_goals go_ret
            all_goals refine ⟨?_, HB.out⟩
            all_goals first | rfl | (simp; done) | (simp; omega)
  · have hc2 : c < 0 ∨ (0 ≤ c ∧ 255 < c) ∨ (0 ≤ c ∧ c ≤ 255 ∧ n < 1) ∨ (0 ≤ c ∧ c ≤ 255 ∧ 1 ≤ n ∧ 3000 < n) := by omega
    clear hc
    rcases hc2 with h1 | ⟨h1, h2⟩ | ⟨h1, h2, h3⟩ | ⟨h1, h2, h3, h4⟩
    all_goals go_enter Try.func8, Try.ntmps8
    all_goals go_wp2_with fail
    all_goals refine (HS _).out.mono ?_
    all_goals rintro e w1 ⟨rfl, hb⟩
    all_goals have B1 := Lib.hid hb
    all_goals clear hb
    all_goals go_wp2
    all_goals go_ret
    all_goals exact ⟨rfl, B1.out⟩
end Go.Proofs.Ytpjggdmfgoajbaa
