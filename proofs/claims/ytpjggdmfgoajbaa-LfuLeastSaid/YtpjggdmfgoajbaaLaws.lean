/- What each law shows first; LfuDoes, LfuSteps, LfuTimes, LfuLong: their walks. -/
import Derived.Test.YtpjggdmfgoajbaaCalls
namespace Go.Proofs.Ytpjggdmfgoajbaa
open Go.RowKit Go.Shelf
attribute [local go_sem] Oper.semAt_some
attribute [local go_sem high] eq23
attribute [local go_sem] guard23
attribute [local go_sem] field0

theorem same_self (a b : Int) : sameU a b a b = true := by unfold sameU; simp
theorem i64_small {a : Int} (h : -1000 ≤ a ∧ a ≤ 1000) : I64 a := ⟨by omega, by omega⟩
set_option maxRecDepth 100000 in
theorem shown_any (w : World) : Calls Try.prog 10 #[] w fun e w' => e = .returned (.bool true) ∧ Below w.heap.size w w' := by
  have hU : I64U (7, 3) := ⟨i64_small (by omega), i64_small (by omega)⟩
  have H1 := fun w => Lib.hid (count_any (7, 3) hU 5 (i64_small (by omega)) w)
  have H2 := fun w => Lib.hid (touch_any (7, 3) hU 5 0 (i64_small (by omega)) (by omega) (by omega) w)
  have H3 := fun w => Lib.hid (count_any (7, 3) hU 2 (i64_small (by omega)) w)
  rw [show cntN (7, 3) 5 = 5 by decide +kernel, show errN (7, 3) 5 = 0 by decide +kernel] at H1
  rw [show cntN (7, 3) 2 = 0 by decide +kernel, show errN (7, 3) 2 = 130 by decide +kernel] at H3
  unfold touchT at H2
  rw [show touchC (7, 3) 5 0 = 6 by decide +kernel, show touchA (7, 3) 5 = 5 by decide +kernel, show errN (7, 3) 5 = 0 by decide +kernel] at H2
  unfold valU at H1 H2 H3
  simp only at H1 H2 H3
  clear hU
  have hs := same_self 6 5
  go_enter Try.func10, Try.ntmps10
  go_wp2_with fail
  refine (H1 _).out.mono ?_
  rintro e w1 ⟨rfl, hb⟩
  have B1 := Lib.hid hb
  clear hb
  go_wp2_with fail
  refine (H2 _).out.mono ?_
  rintro e w2 ⟨rfl, hb⟩
  have B2 := Lib.hid ((B1.out.trans (hb.mono B1.out.size)).alloc (Nat.le_trans B1.out.size hb.size) (.cells #[.int .i64 6, .int .i64 5] 23))
  have K2 := Lib.hid (Blk.new w2 23 #[.int .i64 6, .int .i64 5])
  clear hb B1
  go_wp2_with fail
  refine (H3 _).out.mono ?_
  rintro e w3 ⟨rfl, hb⟩
  have B3 := Lib.hid (B2.out.trans (hb.mono B2.out.size))
  obtain ⟨a0, a1, _, _⟩ := facts2 (K2.out.later hb)
  clear hb B2
  go_wp2
  go_ret
  exact ⟨rfl, B3.out⟩

set_option maxRecDepth 100000 in
set_option maxHeartbeats 1000000 in
/-- LfuDoes. -/
theorem does_walk (u : Use) (h : I64U u) (now d : Int) (hn : I64 now) (hd1 : 0 ≤ d) (hd2 : d ≤ 4294967295) (w : World) : Calls Try.prog 3 #[valU u, .int .i64 now, .int .u32 d] w fun e w' => e = .returned (.bool true) ∧ Below w.heap.size w w' := by
  have HS := fun w => Lib.hid (shown_any w)
  have HA := fun w => Lib.hid (new_any now hn w)
  have HB := fun w => Lib.hid (refNew_any now w)
  have HC := fun w => Lib.hid (count_any u h now hn w)
  have HD := fun w => Lib.hid (refCount_any u now hn w)
  have HE := fun w => Lib.hid (touch_any u h now d hn hd1 hd2 w)
  have HF := fun w => Lib.hid (refTouch_any u now d hn hd1 hd2 w)
  have HR := fun w => Lib.hid (right_any u h w)
  have HQ := fun w => Lib.hid (refRight_any u w)
  unfold touchT at HE HF
  generalize (if 0 ≤ now then 5 else 0 : Int) = n1 at *
  generalize (if 0 ≤ now then now else 0 : Int) = n2 at *
  generalize (if 0 ≤ now then 0 else 130 : Int) = n3 at *
  generalize cntN u now = n4 at *
  generalize errN u now = n5 at *
  generalize touchC u now d = n6 at *
  generalize touchA u now = n7 at *
  generalize rightB u = r at *
  obtain ⟨c, a⟩ := u
  unfold valU at *
  simp only at HC HD HE HF HR HQ ⊢
  have s1 := same_self n1 n2
  have s2 := same_self n6 n7
  clear h
  have K0 := Lib.hid (Blk.new w 23 #[.int .i64 c, .int .i64 a])
  have B0 := Lib.hid (alloc_below w (.cells #[.int .i64 c, .int .i64 a] 23))
  go_enter Try.func3, Try.ntmps3
  go_wp2_with fail
  refine (HS _).out.mono ?_
  rintro e w1 ⟨rfl, hb⟩
  have B1 := Lib.hid (B0.out.trans (hb.mono B0.out.size))
  have K1 := Lib.hid (K0.out.later hb)
  clear hb B0 K0
  go_wp2_with fail
  refine (HA _).out.mono ?_
  rintro e w2 ⟨rfl, hb⟩
  have B2 := Lib.hid ((B1.out.trans (hb.mono B1.out.size)).alloc (Nat.le_trans B1.out.size hb.size) (.cells #[.int .i64 n1, .int .i64 n2] 23))
  have K2 := Lib.hid ((K1.out.later hb).alloc (.cells #[.int .i64 n1, .int .i64 n2] 23))
  have L2 := Lib.hid (Blk.new w2 23 #[.int .i64 n1, .int .i64 n2])
  clear hb B1 K1
  go_wp2_with fail
  refine (HB _).out.mono ?_
  rintro e w3 ⟨rfl, hb⟩
  have B3 := Lib.hid ((B2.out.trans (hb.mono B2.out.size)).alloc (Nat.le_trans B2.out.size hb.size) (.cells #[.int .i64 n1, .int .i64 n2] 23))
  have k3 := (K2.out.later hb).alloc (.cells #[.int .i64 n1, .int .i64 n2] 23)
  obtain ⟨a0, a1, _, _⟩ := facts2 k3
  have K3 := Lib.hid k3
  have L3 := Lib.hid ((L2.out.later hb).alloc (.cells #[.int .i64 n1, .int .i64 n2] 23))
  have M3 := Lib.hid (Blk.new w3 23 #[.int .i64 n1, .int .i64 n2])
  clear hb B2 K2 L2 k3
  go_wp2_with fail
  refine (HC _).out.mono ?_
  rintro e w4 ⟨rfl, hb⟩
  have B4 := Lib.hid (B3.out.trans (hb.mono B3.out.size))
  have k4 := K3.out.later hb
  have K4 := Lib.hid k4
  have L4 := Lib.hid (L3.out.later hb)
  have M4 := Lib.hid (M3.out.later hb)
  clear hb B3 K3 L3 M3 a0 a1
  obtain ⟨a0, a1, _, _⟩ := facts2 k4
  clear k4
  go_wp2_with fail
  refine (HD _).out.mono ?_
  rintro e w5 ⟨rfl, hb⟩
  have B5 := Lib.hid (B4.out.trans (hb.mono B4.out.size))
  have k5 := K4.out.later hb
  have K5 := Lib.hid k5
  have L5 := Lib.hid (L4.out.later hb)
  have M5 := Lib.hid (M4.out.later hb)
  clear hb B4 K4 L4 M4 a0 a1
  obtain ⟨a0, a1, _, _⟩ := facts2 k5
  clear k5
  go_wp2_with fail
  refine (HE _).out.mono ?_
  rintro e w6 ⟨rfl, hb⟩
  have B6 := Lib.hid ((B5.out.trans (hb.mono B5.out.size)).alloc (Nat.le_trans B5.out.size hb.size) (.cells #[.int .i64 n6, .int .i64 n7] 23))
  have k6 := (K5.out.later hb).alloc (.cells #[.int .i64 n6, .int .i64 n7] 23)
  have K6 := Lib.hid k6
  have L6 := Lib.hid ((L5.out.later hb).alloc (.cells #[.int .i64 n6, .int .i64 n7] 23))
  have M6 := Lib.hid ((M5.out.later hb).alloc (.cells #[.int .i64 n6, .int .i64 n7] 23))
  have N6 := Lib.hid (Blk.new w6 23 #[.int .i64 n6, .int .i64 n7])
  clear hb B5 K5 L5 M5 a0 a1
  obtain ⟨a0, a1, _, _⟩ := facts2 k6
  clear k6
  go_wp2_with fail
  refine (HF _).out.mono ?_
  rintro e w7 ⟨rfl, hb⟩
  have B7 := Lib.hid ((B6.out.trans (hb.mono B6.out.size)).alloc (Nat.le_trans B6.out.size hb.size) (.cells #[.int .i64 n6, .int .i64 n7] 23))
  have k7 := (K6.out.later hb).alloc (.cells #[.int .i64 n6, .int .i64 n7] 23)
  have l7 := (L6.out.later hb).alloc (.cells #[.int .i64 n6, .int .i64 n7] 23)
  have m7 := (M6.out.later hb).alloc (.cells #[.int .i64 n6, .int .i64 n7] 23)
  have p7 := (N6.out.later hb).alloc (.cells #[.int .i64 n6, .int .i64 n7] 23)
  have o7 := Blk.new w7 23 #[.int .i64 n6, .int .i64 n7]
  clear hb B6 K6 L6 M6 N6 a0 a1
  have x0 := k7.ext 0 _ rfl
  have x1 := k7.ext 1 _ rfl
  have x2 := l7.ext 0 _ rfl
  have x3 := l7.ext 1 _ rfl
  have x4 := m7.ext 0 _ rfl
  have x5 := m7.ext 1 _ rfl
  have x6 := p7.ext 0 _ rfl
  have x7 := p7.ext 1 _ rfl
  have x8 := o7.ext 0 _ rfl
  have x9 := o7.ext 1 _ rfl
  clear k7 l7 m7 p7 o7
  have hne := Ext.one (w7.alloc (.cells #[.int .i64 n6, .int .i64 n7] 23))
  go_wp2_with fail
  refine region_ext (by kernel_rfl) (by kernel_rfl) (Below.refl _ _) ?_
  repeat go_big_quiet_step ((first | (go_at_call 17; exact Ext.call _ (HR _).out) | (go_at_call 18; exact Ext.call _ (HQ _).out)))
  refine wpQuiet_nil ?_
  rintro _ ⟨x, rfl⟩
  go_wp2_with fail
  go_ret
  exact ⟨by simp, B7.out.trans (x.ok.mono B7.out.size)⟩
end Go.Proofs.Ytpjggdmfgoajbaa
