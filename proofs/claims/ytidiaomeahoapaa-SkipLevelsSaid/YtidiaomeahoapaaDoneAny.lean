/- done: an act, by the program alone. -/
import Derived.Test.YtidiaomeahoapaaDone
namespace Go.Proofs.Ytidiaomeahoapaa
open Go.RowKit Go.Shelf
attribute [local go_sem] Oper.semAt_some

variable {w : World} {p : Nat} {L : List Nd}
theorem kd_lt (x : Ac) : kd x < 8 := by unfold kd; omega
theorem kd_wrap (x : Ac) : (IntKind.u64.wrap x.d).tmod 8 = (kd x : Int) := by
  have h1 : IntKind.u64.wrap x.d = x.d % 18446744073709551616 := rfl
  unfold kd
  rw [h1, Int.tmod_eq_emod_of_nonneg (by omega)]
  omega

set_option maxRecDepth 100000 in
set_option maxHeartbeats 8000000 in
theorem done_any (h : Ls w p L) (hN : L.length ≤ 100000) (x : Ac) (hx : x.Fit) (l : Nat) (hl : 0 < l ∧ l ≤ 32) :
    Calls Try.prog 23 #[.pointer (some ⟨p, 0, none⟩), x.val, .int .i64 l] w fun e w' => e = .returned (.int .i64 (resM x (L.map er))) ∧ Act1 w w' p L (effM x l (L.map er)) := by
  have hk := kd_wrap x
  have hk8 := kd_lt x
  have hm := hx.m
  unfold Ac.val resM effM
  obtain ⟨d, m, s, lv, f, t⟩ := x
  simp only at *
  generalize kd ⟨d, m, s, lv, f, t⟩ = K at *
  have HF := fun w => Lib.hid (few_any m hm s w)
  have hcs := cut12_size m
  have HI := fun w' (hb : Below w.heap.size w w') => Lib.hid (insert_act (h.later hb) hN (cut12 m) hcs s l hl)
  have HD := fun w' (hb : Below w.heap.size w w') => Lib.hid (delete_act (h.later hb) hN (cut12 m) s)
  have HS := fun w' (hb : Below w.heap.size w w') => Lib.hid (seek_act (h.later hb) hN (cut12 m) s)
  have HC := fun w' (hb : Below w.heap.size w w') => Lib.hid (cut_act (h.later hb) hN f t)
  have kA := Blk.new w 34 #[.int .i64 d, .string m, .int .i64 s, .int .i64 lv, .int .i64 f, .int .i64 t]
  have hbA : Below w.heap.size w (w.alloc (.cells #[.int .i64 d, .string m, .int .i64 s, .int .i64 lv, .int .i64 f, .int .i64 t] 34)) := (Below.refl _ _).alloc (Nat.le_refl _) _
  have HA := Lib.hid kA
  have HB := Lib.hid hbA
  clear hx hm hcs hl kA hbA
  generalize cut12 m = c at *
  generalize hD' : L.map er = M at *
  clear hD' h hN
  have hcases : K = 0 ∨ K = 1 ∨ K = 2 ∨ K = 3 ∨ K = 4 ∨ K = 5 ∨ K = 6 ∨ K = 7 := by omega
  clear hk8
  rcases hcases with rfl | rfl | rfl | rfl | rfl | rfl | rfl | rfl
  · simp only [show (0 < 4) = True by simp, show (0 < 6) = True by simp, show (0 = 6) = False by simp, if_true, if_false]
    clear HD HS HC
    generalize (if hasM M c s = true then (90 : Int) else 0) = R at *
    generalize (if hasM M c s = true then M else insM M c s l) = M2 at *
    replace hk : (IntKind.u64.wrap d).tmod 8 = 0 := hk
    go_enter Try.func23, Try.ntmps23
    go_wp2_with fail
    refine (HF _).out.mono ?_
    rintro e w1 ⟨rfl, hb⟩
    have hz1 := (HA.out.later hb).lt
    obtain ⟨e0, e1, e2, e3, e4, e5⟩ := facts6 (HA.out.later hb)
    have hbw := HB.out.trans (hb.mono HB.out.size)
    have hbx := hbw.trans (((Below.refl w1.heap.size w1).alloc (Nat.le_refl _) (Obj.cells #[.string c, .int .i64 s] 32)).mono hbw.size)
    have HI2 := HI _ hbx
    have HBX := Lib.hid hbx
    clear hb hbw hbx HI HF
    go_wp2_with fail
    refine HI2.out.mono ?_
    rintro e w2 ⟨rfl, ha⟩
    have HACT := Lib.hid (ha.before HBX.out)
    clear ha
    go_wp2_with fail
    go_returns
    exact ⟨rfl, HACT.out⟩
  · simp only [show (1 < 4) = True by simp, show (1 < 6) = True by simp, show (1 = 6) = False by simp, if_true, if_false]
    clear HD HS HC
    generalize (if hasM M c s = true then (90 : Int) else 0) = R at *
    generalize (if hasM M c s = true then M else insM M c s l) = M2 at *
    replace hk : (IntKind.u64.wrap d).tmod 8 = 1 := hk
    go_enter Try.func23, Try.ntmps23
    go_wp2_with fail
    refine (HF _).out.mono ?_
    rintro e w1 ⟨rfl, hb⟩
    have hz1 := (HA.out.later hb).lt
    obtain ⟨e0, e1, e2, e3, e4, e5⟩ := facts6 (HA.out.later hb)
    have hbw := HB.out.trans (hb.mono HB.out.size)
    have hbx := hbw.trans (((Below.refl w1.heap.size w1).alloc (Nat.le_refl _) (Obj.cells #[.string c, .int .i64 s] 32)).mono hbw.size)
    have HI2 := HI _ hbx
    have HBX := Lib.hid hbx
    clear hb hbw hbx HI HF
    go_wp2_with fail
    refine HI2.out.mono ?_
    rintro e w2 ⟨rfl, ha⟩
    have HACT := Lib.hid (ha.before HBX.out)
    clear ha
    go_wp2_with fail
    go_returns
    exact ⟨rfl, HACT.out⟩
  · simp only [show (2 < 4) = True by simp, show (2 < 6) = True by simp, show (2 = 6) = False by simp, if_true, if_false]
    clear HD HS HC
    generalize (if hasM M c s = true then (90 : Int) else 0) = R at *
    generalize (if hasM M c s = true then M else insM M c s l) = M2 at *
    replace hk : (IntKind.u64.wrap d).tmod 8 = 2 := hk
    go_enter Try.func23, Try.ntmps23
    go_wp2_with fail
    refine (HF _).out.mono ?_
    rintro e w1 ⟨rfl, hb⟩
    have hz1 := (HA.out.later hb).lt
    obtain ⟨e0, e1, e2, e3, e4, e5⟩ := facts6 (HA.out.later hb)
    have hbw := HB.out.trans (hb.mono HB.out.size)
    have hbx := hbw.trans (((Below.refl w1.heap.size w1).alloc (Nat.le_refl _) (Obj.cells #[.string c, .int .i64 s] 32)).mono hbw.size)
    have HI2 := HI _ hbx
    have HBX := Lib.hid hbx
    clear hb hbw hbx HI HF
    go_wp2_with fail
    refine HI2.out.mono ?_
    rintro e w2 ⟨rfl, ha⟩
    have HACT := Lib.hid (ha.before HBX.out)
    clear ha
    go_wp2_with fail
    go_returns
    exact ⟨rfl, HACT.out⟩
  · simp only [show (3 < 4) = True by simp, show (3 < 6) = True by simp, show (3 = 6) = False by simp, if_true, if_false]
    clear HD HS HC
    generalize (if hasM M c s = true then (90 : Int) else 0) = R at *
    generalize (if hasM M c s = true then M else insM M c s l) = M2 at *
    replace hk : (IntKind.u64.wrap d).tmod 8 = 3 := hk
    go_enter Try.func23, Try.ntmps23
    go_wp2_with fail
    refine (HF _).out.mono ?_
    rintro e w1 ⟨rfl, hb⟩
    have hz1 := (HA.out.later hb).lt
    obtain ⟨e0, e1, e2, e3, e4, e5⟩ := facts6 (HA.out.later hb)
    have hbw := HB.out.trans (hb.mono HB.out.size)
    have hbx := hbw.trans (((Below.refl w1.heap.size w1).alloc (Nat.le_refl _) (Obj.cells #[.string c, .int .i64 s] 32)).mono hbw.size)
    have HI2 := HI _ hbx
    have HBX := Lib.hid hbx
    clear hb hbw hbx HI HF
    go_wp2_with fail
    refine HI2.out.mono ?_
    rintro e w2 ⟨rfl, ha⟩
    have HACT := Lib.hid (ha.before HBX.out)
    clear ha
    go_wp2_with fail
    go_returns
    exact ⟨rfl, HACT.out⟩
  · simp only [show (4 < 4) = False by simp, show (4 < 6) = True by simp, show (4 = 6) = False by simp, if_true, if_false]
    clear HI HS HC
    generalize (if hasM M c s = true then cutM M (posM M c s) (posM M c s + 1) else M) = M2 at *
    generalize hasM M c s = bb at *
    replace hk : (IntKind.u64.wrap d).tmod 8 = 4 := hk
    go_enter Try.func23, Try.ntmps23
    go_wp2_with fail
    refine (HF _).out.mono ?_
    rintro e w1 ⟨rfl, hb⟩
    have hz1 := (HA.out.later hb).lt
    obtain ⟨e0, e1, e2, e3, e4, e5⟩ := facts6 (HA.out.later hb)
    have hbw := HB.out.trans (hb.mono HB.out.size)
    have hbx := hbw.trans (((Below.refl w1.heap.size w1).alloc (Nat.le_refl _) (Obj.cells #[.string c, .int .i64 s] 32)).mono hbw.size)
    have HI2 := HD _ hbx
    have HBX := Lib.hid hbx
    clear hb hbw hbx HD HF
    go_wp2_with fail
    refine HI2.out.mono ?_
    rintro e w2 ⟨rfl, ha⟩
    have HACT := Lib.hid (ha.before HBX.out)
    clear ha
    cases bb with
    | true =>
      go_wp2_with fail
      go_returns
      exact ⟨rfl, HACT.out⟩
    | false =>
      go_wp2_with fail
      go_returns
      exact ⟨rfl, HACT.out⟩
  · simp only [show (5 < 4) = False by simp, show (5 < 6) = True by simp, show (5 = 6) = False by simp, if_true, if_false]
    clear HI HS HC
    generalize (if hasM M c s = true then cutM M (posM M c s) (posM M c s + 1) else M) = M2 at *
    generalize hasM M c s = bb at *
    replace hk : (IntKind.u64.wrap d).tmod 8 = 5 := hk
    go_enter Try.func23, Try.ntmps23
    go_wp2_with fail
    refine (HF _).out.mono ?_
    rintro e w1 ⟨rfl, hb⟩
    have hz1 := (HA.out.later hb).lt
    obtain ⟨e0, e1, e2, e3, e4, e5⟩ := facts6 (HA.out.later hb)
    have hbw := HB.out.trans (hb.mono HB.out.size)
    have hbx := hbw.trans (((Below.refl w1.heap.size w1).alloc (Nat.le_refl _) (Obj.cells #[.string c, .int .i64 s] 32)).mono hbw.size)
    have HI2 := HD _ hbx
    have HBX := Lib.hid hbx
    clear hb hbw hbx HD HF
    go_wp2_with fail
    refine HI2.out.mono ?_
    rintro e w2 ⟨rfl, ha⟩
    have HACT := Lib.hid (ha.before HBX.out)
    clear ha
    cases bb with
    | true =>
      go_wp2_with fail
      go_returns
      exact ⟨rfl, HACT.out⟩
    | false =>
      go_wp2_with fail
      go_returns
      exact ⟨rfl, HACT.out⟩
  · simp only [show (6 < 4) = False by simp, show (6 < 6) = False by simp, if_true, if_false]
    clear HI HD HC
    generalize (posM M c s : Int) = R at *
    generalize hasM M c s = bb at *
    replace hk : (IntKind.u64.wrap d).tmod 8 = 6 := hk
    go_enter Try.func23, Try.ntmps23
    go_wp2_with fail
    refine (HF _).out.mono ?_
    rintro e w1 ⟨rfl, hb⟩
    have hz1 := (HA.out.later hb).lt
    obtain ⟨e0, e1, e2, e3, e4, e5⟩ := facts6 (HA.out.later hb)
    have hbw := HB.out.trans (hb.mono HB.out.size)
    have hbx := hbw.trans (((Below.refl w1.heap.size w1).alloc (Nat.le_refl _) (Obj.cells #[.string c, .int .i64 s] 32)).mono hbw.size)
    have HI2 := HS _ hbx
    have HBX := Lib.hid hbx
    clear hb hbw hbx HS HF
    go_wp2_with fail
    refine HI2.out.mono ?_
    rintro e w2 ⟨rfl, ha⟩
    have HACT := Lib.hid (ha.before HBX.out)
    clear ha
    go_wp2_with fail
    go_returns
    exact ⟨rfl, HACT.out⟩
  · simp only [show (7 < 4) = False by simp, show (7 < 6) = False by simp, show (7 = 6) = False by simp, if_false]
    clear HI HD HS
    generalize (if from0 f < to0 t M.length then (to0 t M.length : Int) - from0 f else 0) = R at *
    generalize (if from0 f < to0 t M.length then cutM M (from0 f) (to0 t M.length) else M) = M2 at *
    replace hk : (IntKind.u64.wrap d).tmod 8 = 7 := hk
    go_enter Try.func23, Try.ntmps23
    go_wp2_with fail
    refine (HF _).out.mono ?_
    rintro e w1 ⟨rfl, hb⟩
    have hz1 := (HA.out.later hb).lt
    obtain ⟨e0, e1, e2, e3, e4, e5⟩ := facts6 (HA.out.later hb)
    have hbw := HB.out.trans (hb.mono HB.out.size)
    have hbx := hbw.trans (((Below.refl w1.heap.size w1).alloc (Nat.le_refl _) (Obj.cells #[.string c, .int .i64 s] 32)).mono hbw.size)
    have HI2 := HC _ hbx
    have HBX := Lib.hid hbx
    clear hb hbw hbx HC HF
    go_wp2_with fail
    refine HI2.out.mono ?_
    rintro e w2 ⟨rfl, ha⟩
    have HACT := Lib.hid (ha.before HBX.out)
    clear ha
    go_wp2_with fail
    go_returns
    exact ⟨rfl, HACT.out⟩
end Go.Proofs.Ytidiaomeahoapaa
