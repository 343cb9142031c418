/- LfuTimes, LfuLong, LfuSteps: their walks. -/
import Derived.Test.YtpjggdmfgoajbaaLaws
namespace Go.Proofs.Ytpjggdmfgoajbaa
open Go.RowKit Go.Shelf
attribute [local go_sem] Oper.semAt_some
attribute [local go_sem high] eq23
attribute [local go_sem] guard23
attribute [local go_sem] field0

theorem err_ok {u : Use} {now : Int} (h : okB u now = true) : errN u now = 0 := by unfold errN; rw [h]; rfl
theorem err_no {u : Use} {now : Int} (h : okB u now = false) : errN u now = 130 := by unfold errN; rw [h]; rfl
theorem cnt_ok {u : Use} {now : Int} (h : okB u now = true) : cntN u now = cntU u now := by unfold cntN; rw [h]; rfl
theorem cnt_no {u : Use} {now : Int} (h : okB u now = false) : cntN u now = 0 := by unfold cntN; rw [h]; rfl
theorem touchC_ok {u : Use} {now : Int} (h : okB u now = true) (d : Int) : touchC u now d = cntU u now + stepN (cntU u now) d := by unfold touchC; rw [h]; rfl
theorem touchA_ok {u : Use} {now : Int} (h : okB u now = true) : touchA u now = now := by unfold touchA; rw [h]; rfl
theorem touchC_no {u : Use} {now : Int} (h : okB u now = false) (d : Int) : touchC u now d = 0 := by unfold touchC; rw [h]; rfl
theorem touchA_no {u : Use} {now : Int} (h : okB u now = false) : touchA u now = 0 := by unfold touchA; rw [h]; rfl

set_option maxRecDepth 100000 in
set_option maxHeartbeats 1000000 in
/-- LfuTimes. -/
theorem times_walk (u : Use) (h : I64U u) (a b : Int) (ha : I64 a) (hb : I64 b) (w : World) : Calls Try.prog 6 #[valU u, .int .i64 a, .int .i64 b] w fun e w' => e = .returned (.bool true) ∧ Below w.heap.size w w' := by
  have HS := fun w => Lib.hid (shown_any w)
  have HA := fun w => Lib.hid (count_any u h a ha w)
  have HB := fun w => Lib.hid (count_any u h b hb w)
  have K0 := Lib.hid (Blk.new w 23 #[.int .i64 u.1, .int .i64 u.2])
  have B0 := Lib.hid (alloc_below w (.cells #[.int .i64 u.1, .int .i64 u.2] 23))
  cases hok : okB u a with
  | false =>
    rw [cnt_no hok, err_no hok] at HA
    clear hok HB
    obtain ⟨c, m⟩ := u
    unfold valU at *
    simp only at *
    go_enter Try.func6, Try.ntmps6
    go_wp2_with fail
    refine (HS _).out.mono ?_
    rintro e w1 ⟨rfl, hb⟩
    have B1 := Lib.hid (B0.out.trans (hb.mono B0.out.size))
    obtain ⟨a0, a1, _, _⟩ := facts2 (K0.out.later hb)
    clear hb
    go_wp2_with fail
    refine (HA _).out.mono ?_
    rintro e w2 ⟨rfl, hb⟩
    have B2 := Lib.hid (B1.out.trans (hb.mono B1.out.size))
    clear hb
    go_wp2
    go_ret
    exact ⟨rfl, B2.out⟩
  | true =>
    have hk := known_of hok ha
    obtain ⟨c1, c2⟩ := cnt_in hk
    rw [cnt_ok hok, err_ok hok] at HA
    by_cases hlt : b < a
    · generalize cntU u a = n at *
      clear hok HB hk
      obtain ⟨c, m⟩ := u
      unfold valU at *
      simp only at *
      go_enter Try.func6, Try.ntmps6
      go_wp2_with fail
      refine (HS _).out.mono ?_
      rintro e w1 ⟨rfl, hb⟩
      have B1 := Lib.hid (B0.out.trans (hb.mono B0.out.size))
      obtain ⟨a0, a1, _, _⟩ := facts2 (K0.out.later hb)
      clear hb
      go_wp2_with fail
      refine (HA _).out.mono ?_
      rintro e w2 ⟨rfl, hb⟩
      have B2 := Lib.hid (B1.out.trans (hb.mono B1.out.size))
      clear hb
      go_wp2
      go_ret
      exact ⟨rfl, B2.out⟩
    · have hok2 : okB u b = true := known_iff.2 (by have := known_iff.1 hok; omega)
      have hok3 : okB (cntU u a, a) b = true := known_iff.2 ⟨c1, c2, by have := known_iff.1 hok; omega, by omega⟩
      have HC := fun w => Lib.hid (count_any (cntU u a, a) ⟨⟨by show _ ≤ cntU u a; omega, by show cntU u a ≤ _; omega⟩, ha⟩ b hb w)
      have he : cntU (cntU u a, a) b = cntU u b := by
        obtain ⟨_, _, _, _, _⟩ := hk
        unfold cntU
        simp only
        omega
      rw [cnt_ok hok3, err_ok hok3, he] at HC
      rw [cnt_ok hok2, err_ok hok2] at HB
      generalize cntU u a = n at *
      generalize cntU u b = k at *
      clear hok hok2 hok3 hk he
      obtain ⟨c, m⟩ := u
      unfold valU at *
      simp only at *
      go_enter Try.func6, Try.ntmps6
      go_wp2_with fail
      refine (HS _).out.mono ?_
      rintro e w1 ⟨rfl, hb⟩
      have B1 := Lib.hid (B0.out.trans (hb.mono B0.out.size))
      have k1 := K0.out.later hb
      obtain ⟨a0, a1, _, _⟩ := facts2 k1
      have K1 := Lib.hid k1
      clear hb k1 K0 B0
      go_wp2_with fail
      refine (HA _).out.mono ?_
      rintro e w2 ⟨rfl, hb⟩
      have B2 := Lib.hid (B1.out.trans (hb.mono B1.out.size))
      have K2 := Lib.hid (K1.out.later hb)
      clear hb a0 a1 B1 K1
      go_wp2_with fail
      refine (HC _).out.mono ?_
      rintro e w3 ⟨rfl, hb⟩
      have B3 := Lib.hid (B2.out.trans (hb.mono B2.out.size))
      obtain ⟨a0, a1, _, _⟩ := facts2 (K2.out.later hb)
      clear hb B2 K2
      go_wp2_with fail
      refine (HB _).out.mono ?_
      rintro e w4 ⟨rfl, hb⟩
      have B4 := Lib.hid (B3.out.trans (hb.mono B3.out.size))
      clear hb B3
      go_wp2
      go_ret
      exact ⟨by simp, B4.out⟩

set_option maxRecDepth 100000 in
set_option maxHeartbeats 1000000 in
/-- LfuLong. -/
theorem long_walk (u : Use) (h : I64U u) (more : Int) (w : World) : Calls Try.prog 9 #[valU u, .int .i64 more] w fun e w' => e = .returned (.bool true) ∧ Below w.heap.size w w' := by
  have HS := fun w => Lib.hid (shown_any w)
  have HR := fun w => Lib.hid (right_any u h w)
  have K0 := Lib.hid (Blk.new w 23 #[.int .i64 u.1, .int .i64 u.2])
  have B0 := Lib.hid (alloc_below w (.cells #[.int .i64 u.1, .int .i64 u.2] 23))
  by_cases hc : rightB u = true ∧ 0 ≤ more ∧ more ≤ 100000 ∧ u.2 ≤ 1099511627776
  · obtain ⟨hr, m1, m2, m3⟩ := hc
    have hr2 : 0 ≤ u.1 ∧ u.1 ≤ 255 ∧ 0 ≤ u.2 := of_decide_eq_true (show decide _ = true from hr)
    have hi : I64 (u.2 + 255 + more) := ⟨by omega, by omega⟩
    have hok : okB u (u.2 + 255 + more) = true := known_iff.2 (by omega)
    have HA := fun w => Lib.hid (count_any u h _ hi w)
    have HB := fun w => Lib.hid (touch_any u h _ 0 hi (by omega) (by omega) w)
    have hz : cntU u (u.2 + 255 + more) = 0 := by unfold cntU; omega
    rw [cnt_ok hok, err_ok hok, hz] at HA
    unfold touchT at HB
    rw [touchC_ok hok, touchA_ok hok, err_ok hok, hz, show (0 : Int) + stepN 0 0 = 1 by decide +kernel] at HB
    rw [hr] at HR
    clear hok hz hr hi h
    obtain ⟨c, a⟩ := u
    unfold valU at *
    simp only at *
    obtain ⟨r1, r2, r3⟩ := hr2
    have w1' : (0 : Int) ≤ a + 255 := by omega
    go_enter Try.func9, Try.ntmps9
    go_wp2_with fail
    refine (HS _).out.mono ?_
    rintro e w1 ⟨rfl, hb⟩
    have B1 := Lib.hid (B0.out.trans (hb.mono B0.out.size))
    have k1 := K0.out.later hb
    obtain ⟨a0, a1, _, _⟩ := facts2 k1
    have K1 := Lib.hid k1
    clear hb k1 K0 B0
    go_wp2_with fail
    refine (HR _).out.mono ?_
    rintro e w2 ⟨rfl, hb⟩
    have B2 := Lib.hid (B1.out.trans (hb.mono B1.out.size))
    have k2 := K1.out.later hb
    have K2 := Lib.hid k2
    clear hb a0 a1 B1 K1
    obtain ⟨a0, a1, _, _⟩ := facts2 k2
    clear k2
    go_wp2_with fail
    refine (HA _).out.mono ?_
    rintro e w3 ⟨rfl, hb⟩
    have B3 := Lib.hid (B2.out.trans (hb.mono B2.out.size))
    have k3 := K2.out.later hb
    clear a0 a1
    obtain ⟨a0, a1, _, _⟩ := facts2 k3
    clear hb B2 K2 k3
    go_wp2_with fail
    refine (HB _).out.mono ?_
    rintro e w4 ⟨rfl, hb⟩
    have B4 := Lib.hid (B3.out.trans (hb.mono B3.out.size))
    clear hb B3
    go_wp2
    go_ret
    exact ⟨by simp, B4.out.alloc B4.out.size _⟩
  · have hc2 : rightB u = false ∨ (rightB u = true ∧ more < 0) ∨ (rightB u = true ∧ 0 ≤ more ∧ 100000 < more) ∨ (rightB u = true ∧ 0 ≤ more ∧ more ≤ 100000 ∧ 1099511627776 < u.2) := by
      cases hr : rightB u
      · exact .inl rfl
      · simp [hr] at hc ⊢; omega
    clear hc h
    obtain ⟨c, a⟩ := u
    unfold valU at *
    simp only at *
    rcases hc2 with hr | ⟨hr, m1⟩ | ⟨hr, m1, m2⟩ | ⟨hr, m1, m2, m3⟩
    all_goals rw [hr] at HR
    all_goals clear hr
    all_goals go_enter Try.func9, Try.ntmps9
    all_goals go_wp2_with fail
    all_goals refine (HS _).out.mono ?_
    all_goals rintro e w1 ⟨rfl, hb⟩
    all_goals have B1 := Lib.hid (B0.out.trans (hb.mono B0.out.size))
    all_goals have k1 := K0.out.later hb
    all_goals obtain ⟨a0, a1, _, _⟩ := facts2 k1
    all_goals have K1 := Lib.hid k1
    all_goals clear hb k1 K0 B0
    all_goals go_wp2_with fail
    all_goals refine (HR _).out.mono ?_
    all_goals rintro e w2 ⟨rfl, hb⟩
    all_goals have B2 := Lib.hid (B1.out.trans (hb.mono B1.out.size))
    all_goals have k2 := K1.out.later hb
    all_goals clear hb a0 a1 B1 K1
    all_goals obtain ⟨a0, a1, _, _⟩ := facts2 k2
    all_goals clear k2
    all_goals go_wp2
    all_goals go_ret
    all_goals exact ⟨rfl, B2.out⟩

set_option maxRecDepth 100000 in
set_option maxHeartbeats 1000000 in
/-- LfuSteps. -/
theorem steps_walk (u : Use) (h : I64U u) (now d : Int) (hn : I64 now) (hd1 : 0 ≤ d) (hd2 : d ≤ 4294967295) (w : World) : Calls Try.prog 5 #[valU u, .int .i64 now, .int .u32 d] w fun e w' => e = .returned (.bool true) ∧ Below w.heap.size w w' := by
  have HS := fun w => Lib.hid (shown_any w)
  have HA := fun w => Lib.hid (count_any u h now hn w)
  have HB := fun w => Lib.hid (touch_any u h now d hn hd1 hd2 w)
  have K0 := Lib.hid (Blk.new w 23 #[.int .i64 u.1, .int .i64 u.2])
  have B0 := Lib.hid (alloc_below w (.cells #[.int .i64 u.1, .int .i64 u.2] 23))
  unfold touchT at HB
  cases hok : okB u now with
  | false =>
    rw [cnt_no hok, err_no hok] at HA
    rw [touchC_no hok, touchA_no hok, err_no hok] at HB
    clear hok
    obtain ⟨c, a⟩ := u
    unfold valU at *
    simp only at *
    have s0 := same_self 0 0
    go_enter Try.func5, Try.ntmps5
    go_wp2_with fail
    refine (HS _).out.mono ?_
    rintro e w1 ⟨rfl, hb⟩
    have B1 := Lib.hid (B0.out.trans (hb.mono B0.out.size))
    have k1 := K0.out.later hb
    obtain ⟨a0, a1, _, _⟩ := facts2 k1
    have K1 := Lib.hid k1
    clear hb k1 K0 B0
    go_wp2_with fail
    refine (HA _).out.mono ?_
    rintro e w2 ⟨rfl, hb⟩
    have B2 := Lib.hid (B1.out.trans (hb.mono B1.out.size))
    have k2 := K1.out.later hb
    clear hb a0 a1 B1 K1
    obtain ⟨a0, a1, _, _⟩ := facts2 k2
    clear k2
    go_wp2_with fail
    refine (HB _).out.mono ?_
    rintro e w3 ⟨rfl, hb⟩
    have B3 := Lib.hid ((B2.out.trans (hb.mono B2.out.size)).alloc (Nat.le_trans B2.out.size hb.size) (.cells #[.int .i64 0, .int .i64 0] 23))
    clear hb B2
    go_wp2
    go_ret
    exact ⟨rfl, B3.out⟩
  | true =>
    have hk := known_of hok hn
    obtain ⟨c1, c2⟩ := cnt_in hk
    rw [cnt_ok hok, err_ok hok] at HA
    rw [touchC_ok hok, touchA_ok hok, err_ok hok] at HB
    obtain ⟨s1, s2⟩ := stepN_01 (cntU u now) d
    have s3 : cntU u now = 255 → stepN (cntU u now) d = 0 := fun e => by unfold stepN; rw [if_pos e]
    have s4 : cntU u now ≠ 255 → d = 0 → stepN (cntU u now) d = 1 := fun e e2 => by unfold stepN; rw [if_neg e, e2]; simp
    have s5 : cntU u now ≤ u.1 ∧ (u.2 = now → cntU u now = u.1) := by
      obtain ⟨_, _, _, _, _⟩ := hk
      unfold cntU; omega
    obtain ⟨k1, k2, k3, k4, k5⟩ := hk
    generalize stepN (cntU u now) d = k at *
    generalize cntU u now = n at *
    have hm : ∃ m, m = n + k := ⟨_, rfl⟩
    obtain ⟨m, hm⟩ := hm
    rw [← hm] at HB
    have HR := fun w => Lib.hid (right_any (m, now) ⟨⟨by show _ ≤ m; omega, by show m ≤ _; omega⟩, hn⟩ w)
    rw [show rightB (m, now) = true from decide_eq_true (by simp only; omega)] at HR
    have cs : (m = n ∧ n = 255 ∧ d = 0) ∨ (m = n ∧ (d != 0) = true) ∨ (m = n + 1 ∧ n < 255 ∧ d = 0) ∨ (m = n + 1 ∧ n < 255 ∧ (d != 0) = true) := by
      have hd : d = 0 ∨ (d ≠ 0 ∧ (d != 0) = true) := by by_cases e : d = 0; exact .inl e; exact .inr ⟨e, by simpa using e⟩
      by_cases e : n = 255
      · have := s3 e
        rcases hd with hd | ⟨_, hd⟩
        · exact .inl ⟨by omega, e, hd⟩
        · exact .inr (.inl ⟨by omega, hd⟩)
      · rcases hd with hd | ⟨_, hd⟩
        · have := s4 e hd
          exact .inr (.inr (.inl ⟨by omega, by omega, hd⟩))
        · rcases (show k = 0 ∨ k = 1 by omega) with e3 | e3
          · exact .inr (.inl ⟨by omega, hd⟩)
          · exact .inr (.inr (.inr ⟨by omega, by omega, hd⟩))
    obtain ⟨s6, s7⟩ := s5
    have ct : (u.2 < now) ∨ (u.2 = now ∧ n = u.1) := by
      rcases (show u.2 < now ∨ u.2 = now by omega) with e | e
      · exact .inl e
      · exact .inr ⟨e, s7 e⟩
    have sn : (n + 1 == n) = false := by simp; omega
    clear hok s1 s2 s3 s4 s7 hm h
    obtain ⟨c, a⟩ := u
    unfold valU at *
    simp only at *
    rcases cs with ⟨rfl, rfl, rfl⟩ | ⟨rfl, hd⟩ | ⟨rfl, hlt, rfl⟩ | ⟨rfl, hlt, hd⟩
    all_goals rcases ct with ht | ⟨rfl, rfl⟩
    all_goals go_enter Try.func5, Try.ntmps5
    all_goals go_wp2_with fail
    all_goals refine (HS _).out.mono ?_
    all_goals rintro e w1 ⟨rfl, hb⟩
    all_goals have B1 := Lib.hid (B0.out.trans (hb.mono B0.out.size))
    all_goals have k1 := K0.out.later hb
    all_goals obtain ⟨a0, a1, _, _⟩ := facts2 k1
    all_goals have K1 := Lib.hid k1
    all_goals clear hb k1 K0 B0
    all_goals go_wp2_with fail
    all_goals refine (HA _).out.mono ?_
    all_goals rintro e w2 ⟨rfl, hb⟩
    all_goals have B2 := Lib.hid (B1.out.trans (hb.mono B1.out.size))
    all_goals have k2 := K1.out.later hb
    all_goals have K2 := Lib.hid k2
    all_goals clear hb a0 a1 B1 K1
    all_goals obtain ⟨a0, a1, _, _⟩ := facts2 k2
    all_goals clear k2
    all_goals go_wp2_with fail
    all_goals refine (HB _).out.mono ?_
    all_goals rintro e w3 ⟨rfl, hb⟩
    all_goals have B3 := fun c => Lib.hid ((B2.out.trans (hb.mono B2.out.size)).alloc (Nat.le_trans B2.out.size hb.size) (.cells c 23))
    all_goals have K3 := fun c => Lib.hid ((K2.out.later hb).alloc (.cells c 23))
    all_goals have L3 := fun c => Lib.hid (Blk.new w3 23 c)
    all_goals clear hb B2 K2 a0 a1
    all_goals go_wp2_with fail
    all_goals refine (HR _).out.mono ?_
    all_goals rintro e w4 ⟨rfl, hb⟩
    all_goals have B4 := Lib.hid ((B3 _).out.trans (hb.mono (B3 _).out.size))
    all_goals obtain ⟨a0, a1, _, _⟩ := facts2 ((K3 _).out.later hb)
    all_goals obtain ⟨b0, b1, _, _⟩ := facts2 ((L3 _).out.later hb)
    all_goals clear hb B3 K3 L3
    all_goals go_wp2
    all_goals go_ret
    all_goals refine ⟨?_, B4.out⟩
    all_goals first | (simp; done) | (simp; omega)
end Go.Proofs.Ytpjggdmfgoajbaa
