/- New, Count, Touch, the program's and the reference's; what each law shows first. -/
import Derived.Test.YtpjggdmfgoajbaaSteps
namespace Go.Proofs.Ytpjggdmfgoajbaa
open Go.RowKit Go.Shelf
attribute [local go_sem] Oper.semAt_some
attribute [local go_sem high] eq23
attribute [local go_sem] guard23

theorem field0 (n m : Int) (w : World) : (Instr.field 23 (.agg #[.int .i64 n, .int .i64 m]) 0).run Try.prog w = .ok (.int .i64 n) w := by kernel_rfl
attribute [local go_sem] field0
/-- Whether a use is right, and has begun. -/
def okB (u : Use) (now : Int) : Bool := !wrongB u now
theorem known_of {u : Use} {now : Int} (h : okB u now = true) (hn : I64 now) : Known u now := by
  unfold okB wrongB rightB at h
  simp at h
  obtain ⟨_, _⟩ := hn
  unfold Known; omega
theorem known_iff {u : Use} {now : Int} : okB u now = true ↔ (0 ≤ u.1 ∧ u.1 ≤ 255 ∧ 0 ≤ u.2 ∧ u.2 ≤ now) := by
  unfold okB wrongB rightB
  simp
  omega
theorem cnt_in {u : Use} {now : Int} (h : Known u now) : 0 ≤ cntU u now ∧ cntU u now ≤ 255 := by
  obtain ⟨_, _, _, _, _⟩ := h; unfold cntU; omega
def cntN (u : Use) (now : Int) : Int := if okB u now then cntU u now else 0
def errN (u : Use) (now : Int) : Int := if okB u now then 0 else 130
def touchC (u : Use) (now d : Int) : Int := if okB u now then cntU u now + stepN (cntU u now) d else 0
def touchA (u : Use) (now : Int) : Int := if okB u now then now else 0

set_option maxRecDepth 100000 in
theorem known_one (u : Use) (h : I64U u) (now : Int) (b : Nat) (w : World) (hB : Blk w b 23 #[.int .i64 u.1, .int .i64 u.2]) :
    Calls Try.prog 21 #[.int .i64 now, .slice (some ⟨b, 0, none⟩) 1 1] w fun e w' => e = .returned (.bool (okB u now)) ∧ Below w.heap.size w w' := by
  have := known_any (some ⟨b, 0, none⟩) 1 [u] (fun v hv => by rw [List.mem_singleton.1 hv]; exact h) (by simp) now w (fun i hi => by
    obtain rfl : i = 0 := by simpa using hi
    exact ⟨b, 0, rfl, hB.cell 0, hB.cell 1⟩)
  have he : (!anyW [u] now) = okB u now := by simp [anyW, okB]
  rw [he] at this
  exact this

theorem Blk.new1 (w : World) (o : Obj) (t : TypeId) (c : Array Value) : Blk ((w.alloc o).alloc (.cells c t)) (w.heap.size + 1) t c := by
  have := Blk.new (w.alloc o) t c
  rwa [World.size_alloc] at this
theorem Blk.new2 (w : World) (o o2 : Obj) (t : TypeId) (c : Array Value) : Blk (((w.alloc o).alloc o2).alloc (.cells c t)) (w.heap.size + 2) t c := by
  have := Blk.new ((w.alloc o).alloc o2) t c
  rwa [World.size_alloc, World.size_alloc] at this
theorem tup_eq {a b e : Int} (h : a = b) : Ending.returned (.tuple #[.int .i64 a, .int .i64 e]) = .returned (.tuple #[.int .i64 b, .int .i64 e]) := by rw [h]
theorem i64_5 : I64 5 := ⟨by decide, by decide⟩
set_option maxRecDepth 100000 in
theorem new_any (now : Int) (h : I64 now) (w : World) : Calls Try.prog 11 #[.int .i64 now] w fun e w' => e = .returned (.tuple #[.agg #[.int .i64 (if 0 ≤ now then 5 else 0), .int .i64 (if 0 ≤ now then now else 0)], .int .i64 (if 0 ≤ now then 0 else 130)]) ∧ Below w.heap.size w w' := by
  have HR := fun w => Lib.hid (right_any (5, now) ⟨i64_5, h⟩ w)
  unfold valU at HR
  simp only at HR
  have K1 := Lib.hid (Blk.new1 w (.cells #[.int .i64 0, .int .i64 0] 23) 23 #[.int .i64 5, .int .i64 now])
  have K0 := Lib.hid ((Blk.new w 23 #[.int .i64 0, .int .i64 0]).alloc (.cells #[.int .i64 5, .int .i64 now] 23))
  by_cases hn : 0 ≤ now
  · rw [show rightB (5, now) = true by unfold rightB; simp [hn]] at HR
    simp only [if_pos hn]
    clear hn
    go_enter Try.func11, Try.ntmps11
    go_wp2_with fail
    refine (HR _).out.mono ?_
    rintro e w1 ⟨rfl, hb⟩
    obtain ⟨a0, a1, _, _⟩ := facts2 (K1.out.later hb)
    obtain ⟨b0, b1, b2, b3⟩ := facts2 (K0.out.later hb)
    have HB := Lib.hid hb
    clear hb
    go_wp2
    refine bodyPost_ret (v := .tuple #[.agg #[.int .i64 5, .int .i64 now], .int .i64 0]) (by simp [results, Try.results11, go_sem, b0, b1]) rfl ⟨rfl, ?_⟩
    exact ((below2 (below2 HB.out)).setCell (Nat.le_refl _) _).setCell (Nat.le_refl _) _
  · rw [show rightB (5, now) = false by unfold rightB; simp; omega] at HR
    simp only [if_neg hn]
    clear hn
    go_enter Try.func11, Try.ntmps11
    go_wp2_with fail
    refine (HR _).out.mono ?_
    rintro e w1 ⟨rfl, hb⟩
    obtain ⟨b0, b1, b2, b3⟩ := facts2 (K0.out.later hb)
    have HB := Lib.hid hb
    clear hb
    go_wp2
    refine bodyPost_ret (v := .tuple #[.agg #[.int .i64 0, .int .i64 0], .int .i64 130]) (by simp [results, Try.results11, go_sem, b0, b1]) rfl ⟨rfl, ?_⟩
    exact ((below2 (below2 HB.out)).setCell (Nat.le_refl _) _).setCell (Nat.le_refl _) _

set_option maxRecDepth 100000 in
theorem refNew_any (now : Int) (w : World) : Calls Try.prog 12 #[.int .i64 now] w fun e w' => e = .returned (.tuple #[.agg #[.int .i64 (if 0 ≤ now then 5 else 0), .int .i64 (if 0 ≤ now then now else 0)], .int .i64 (if 0 ≤ now then 0 else 130)]) ∧ Below w.heap.size w w' := by
  by_cases hn : 0 ≤ now
  · have hn2 : ¬ now < 0 := by omega
    simp only [if_pos hn]
    go_enter Try.func12, Try.ntmps12
    go_wp2
    refine bodyPost_ret (v := .tuple #[.agg #[.int .i64 5, .int .i64 now], .int .i64 0]) (by simp [results, Try.results12, go_sem]) rfl ⟨rfl, (Below.refl _ _).alloc (Nat.le_refl _) _⟩
  · have hn2 : now < 0 := by omega
    simp only [if_neg hn]
    go_enter Try.func12, Try.ntmps12
    go_wp2
    refine bodyPost_ret (v := .tuple #[.agg #[.int .i64 0, .int .i64 0], .int .i64 130]) (by simp [results, Try.results12, go_sem]) rfl ⟨rfl, (Below.refl _ _).alloc (Nat.le_refl _) _⟩

set_option maxRecDepth 100000 in
theorem count_any (u : Use) (h : I64U u) (now : Int) (hn : I64 now) (w : World) : Calls Try.prog 13 #[valU u, .int .i64 now] w fun e w' => e = .returned (.tuple #[.int .i64 (cntN u now), .int .i64 (errN u now)]) ∧ Below w.heap.size w w' := by
  have HK := fun b w hB => Lib.hid (known_one u h now b w hB)
  have HL := fun h w => Lib.hid (later_any u now h w)
  have HN := fun h => known_of (u := u) h hn
  have K0 := Lib.hid ((Blk.new w 23 #[.int .i64 u.1, .int .i64 u.2]).alloc (.cells #[.int .i64 u.1, .int .i64 u.2] 23))
  have K1 := Lib.hid (Blk.new1 w (.cells #[.int .i64 u.1, .int .i64 u.2] 23) 23 #[.int .i64 u.1, .int .i64 u.2])
  unfold cntN errN
  cases hok : okB u now with
  | true =>
    have HL2 := HL (HN hok)
    rw [hok] at HK
    generalize cntU u now = n at *
    clear HL HN hok
    obtain ⟨c, a⟩ := u
    unfold valU at *
    simp only [if_true] at *
    go_enter Try.func13, Try.ntmps13
    go_wp2_with fail
    refine (HK _ _ K1.out).out.mono ?_
    rintro e w1 ⟨rfl, hb⟩
    obtain ⟨a0, a1, _, _⟩ := facts2 (K0.out.later hb)
    have HB := Lib.hid hb
    clear hb
    go_wp2_with fail
    refine (HL2 _).out.mono ?_
    rintro e w2 ⟨rfl, hb2⟩
    have HB2 := Lib.hid hb2
    clear hb2
    go_wp2
    go_ret2
    exact ⟨rfl, (below2 (below2 HB.out)).trans (HB2.out.mono (below2 (below2 HB.out)).size)⟩
  | false =>
    rw [hok] at HK
    clear HL HN hok
    obtain ⟨c, a⟩ := u
    unfold valU at *
    simp only [Bool.false_eq_true, if_false] at *
    go_enter Try.func13, Try.ntmps13
    go_wp2_with fail
    refine (HK _ _ K1.out).out.mono ?_
    rintro e w1 ⟨rfl, hb⟩
    have HB := Lib.hid hb
    clear hb
    go_wp2
    go_ret2
    exact ⟨rfl, below2 (below2 HB.out)⟩
set_option maxRecDepth 100000 in
theorem refCount_any (u : Use) (now : Int) (hn : I64 now) (w : World) : Calls Try.prog 14 #[valU u, .int .i64 now] w fun e w' => e = .returned (.tuple #[.int .i64 (cntN u now), .int .i64 (errN u now)]) ∧ Below w.heap.size w w' := by
  have HR := fun w => Lib.hid (refRight_any u w)
  have K0 := Lib.hid (Blk.new w 23 #[.int .i64 u.1, .int .i64 u.2])
  unfold cntN errN
  cases hok : okB u now with
  | true =>
    obtain ⟨k1, k2, k3, k4, k5⟩ := known_of hok hn
    rw [show rightB u = true by unfold rightB; simp [k1, k2, k3]] at HR
    have HC := Lib.hid (show cntU u now = max (u.1 - (now - u.2)) 0 from rfl)
    generalize cntU u now = n at *
    clear hok
    obtain ⟨c, a⟩ := u
    unfold valU at *
    simp only [if_true] at *
    have k6 : ¬ now < a := by omega
    go_enter Try.func14, Try.ntmps14
    go_wp2_with fail
    refine (HR _).out.mono ?_
    rintro e w1 ⟨rfl, hb⟩
    obtain ⟨a0, a1, _, _⟩ := facts2 (K0.out.later hb)
    have HB := Lib.hid hb
    clear hb
    go_wp2
    all_goals go_ret2
    all_goals refine ⟨?_, below2 HB.out⟩
    all_goals rw [HC.out]
    all_goals exact tup_eq (by omega)
  | false =>
    simp only [Bool.false_eq_true, if_false]
    have hno : rightB u = false ∨ (rightB u = true ∧ now < u.2) := by
      unfold okB wrongB at hok
      cases hr : rightB u <;> simp [hr] at hok ⊢
      exact hok
    clear hok
    obtain ⟨c, a⟩ := u
    unfold valU at *
    simp only at *
    rcases hno with hr | ⟨hr, hlt⟩
    · rw [hr] at HR
      clear hr
      go_enter Try.func14, Try.ntmps14
      go_wp2_with fail
      refine (HR _).out.mono ?_
      rintro e w1 ⟨rfl, hb⟩
      have HB := Lib.hid hb
      clear hb
      go_wp2
      go_ret2
      exact ⟨rfl, below2 HB.out⟩
    · rw [hr] at HR
      clear hr
      go_enter Try.func14, Try.ntmps14
      go_wp2_with fail
      refine (HR _).out.mono ?_
      rintro e w1 ⟨rfl, hb⟩
      obtain ⟨a0, a1, _, _⟩ := facts2 (K0.out.later hb)
      have HB := Lib.hid hb
      clear hb
      go_wp2
      go_ret2
      exact ⟨rfl, below2 HB.out⟩

/-- What Touch answers. -/
def touchT (u : Use) (now d : Int) : Value := .tuple #[.agg #[.int .i64 (touchC u now d), .int .i64 (touchA u now)], .int .i64 (errN u now)]
set_option maxRecDepth 100000 in
set_option maxHeartbeats 1000000 in
theorem touch_any (u : Use) (h : I64U u) (now d : Int) (hn : I64 now) (hd1 : 0 ≤ d) (hd2 : d ≤ 4294967295) (w : World) : Calls Try.prog 15 #[valU u, .int .i64 now, .int .u32 d] w fun e w' => e = .returned (touchT u now d) ∧ Below w.heap.size w w' := by
  have HK := fun b w hB => Lib.hid (known_one u h now b w hB)
  have HL := fun h w => Lib.hid (later_any u now h w)
  have HN := fun h => known_of (u := u) h hn
  have K0 := Lib.hid (((Blk.new w 23 #[.int .i64 u.1, .int .i64 u.2]).alloc (.cells #[.int .i64 0, .int .i64 0] 23)).alloc (.cells #[.int .i64 u.1, .int .i64 u.2] 23))
  have K1 := Lib.hid ((Blk.new1 w (.cells #[.int .i64 u.1, .int .i64 u.2] 23) 23 #[.int .i64 0, .int .i64 0]).alloc (.cells #[.int .i64 u.1, .int .i64 u.2] 23))
  have K2 := Lib.hid (Blk.new2 w (.cells #[.int .i64 u.1, .int .i64 u.2] 23) (.cells #[.int .i64 0, .int .i64 0] 23) 23 #[.int .i64 u.1, .int .i64 u.2])
  unfold touchT touchC touchA errN
  cases hok : okB u now with
  | true =>
    have hk := HN hok
    have HL2 := HL hk
    rw [hok] at HK
    obtain ⟨c1, c2⟩ := cnt_in hk
    have HU := fun a w => Lib.hid (used_any (cntU u now) a d c1 c2 hd1 hd2 w)
    generalize stepN (cntU u now) d = k at *
    generalize cntU u now = n at *
    clear HL HN hok hk
    obtain ⟨c, a⟩ := u
    unfold valU at *
    simp only [if_true] at *
    go_enter Try.func15, Try.ntmps15
    go_wp2_with fail
    refine (HK _ _ K2.out).out.mono ?_
    rintro e w1 ⟨rfl, hb⟩
    have B1 := Lib.hid (below2 (below2 (below2 hb)))
    have k0 := K0.out.later hb
    have k1 := K1.out.later hb
    obtain ⟨a0, a1, _, _⟩ := facts2 k0
    have K0' := Lib.hid k0
    have K1' := Lib.hid k1
    clear hb k0 k1 K0 K1 K2
    go_wp2_with fail
    refine (HL2 _).out.mono ?_
    rintro e w2 ⟨rfl, hb⟩
    have B2 := Lib.hid (B1.out.trans (hb.mono B1.out.size))
    have K1'' := Lib.hid (K1'.out.later hb)
    clear hb a0 a1 K0' K1' B1
    go_wp2_with fail
    refine (HU _ _).out.mono ?_
    rintro e w3 ⟨rfl, hb⟩
    have B3 := Lib.hid (B2.out.trans (hb.mono B2.out.size))
    obtain ⟨b0, b1, b2, b3⟩ := facts2 (K1''.out.later hb)
    clear hb K1'' B2
    go_wp2
    refine bodyPost_ret (v := .tuple #[.agg #[.int .i64 (n + k), .int .i64 now], .int .i64 0]) (by simp [results, Try.results15, go_sem, b0, b1]) rfl ⟨rfl, ?_⟩
    exact (B3.out.setCell (by simp) _).setCell (by simp) _
  | false =>
    rw [hok] at HK
    clear HL HN hok
    obtain ⟨c, a⟩ := u
    unfold valU at *
    simp only [Bool.false_eq_true, if_false] at *
    go_enter Try.func15, Try.ntmps15
    go_wp2_with fail
    refine (HK _ _ K2.out).out.mono ?_
    rintro e w1 ⟨rfl, hb⟩
    have B1 := Lib.hid (below2 (below2 (below2 hb)))
    obtain ⟨b0, b1, b2, b3⟩ := facts2 (K1.out.later hb)
    clear hb K0 K1 K2
    go_wp2
    refine bodyPost_ret (v := .tuple #[.agg #[.int .i64 0, .int .i64 0], .int .i64 130]) (by simp [results, Try.results15, go_sem, b0, b1]) rfl ⟨rfl, ?_⟩
    exact (B1.out.setCell (by simp) _).setCell (by simp) _

set_option maxRecDepth 100000 in
set_option maxHeartbeats 1000000 in
theorem refTouch_any (u : Use) (now d : Int) (hn : I64 now) (hd1 : 0 ≤ d) (hd2 : d ≤ 4294967295) (w : World) : Calls Try.prog 16 #[valU u, .int .i64 now, .int .u32 d] w fun e w' => e = .returned (touchT u now d) ∧ Below w.heap.size w w' := by
  have HC := fun w => Lib.hid (refCount_any u now hn w)
  have K0 := Lib.hid (((Blk.new w 23 #[.int .i64 u.1, .int .i64 u.2]).alloc (.cells #[.int .i64 0, .int .i64 0] 23)))
  have K1 := Lib.hid (Blk.new1 w (.cells #[.int .i64 u.1, .int .i64 u.2] 23) 23 #[.int .i64 0, .int .i64 0])
  unfold cntN errN at HC
  unfold touchT touchC touchA errN
  cases hok : okB u now with
  | true =>
    obtain ⟨c1, c2⟩ := cnt_in (known_of hok hn)
    rw [hok] at HC
    have HS : stepN (cntU u now) d = if cntU u now = 255 then 0 else if d % manyN (cntU u now) = 0 then 1 else 0 := rfl
    generalize stepN (cntU u now) d = k at *
    generalize cntU u now = n at *
    clear hok
    obtain ⟨c, a⟩ := u
    unfold valU at *
    simp only [if_true] at *
    go_enter Try.func16, Try.ntmps16
    go_wp2_with fail
    refine (HC _).out.mono ?_
    rintro e w1 ⟨rfl, hb⟩
    have B1 := Lib.hid (below2 (below2 hb))
    obtain ⟨a0, a1, _, _⟩ := facts2 (K0.out.later hb)
    obtain ⟨b0, b1, b2, b3⟩ := facts2 (K1.out.later hb)
    clear hb K0 K1
    have fin : ∀ m w', m = n + k → Below w.heap.size w w' → Hid (Ending.returned (.tuple #[.agg #[.int .i64 m, .int .i64 now], .int .i64 0]) = .returned (.tuple #[.agg #[.int .i64 (n + k), .int .i64 now], .int .i64 0]) ∧ Below w.heap.size w w') := fun m w' e hb => Lib.hid ⟨by rw [e], hb⟩
    by_cases h255 : n = 255
    · rw [if_pos h255] at HS
      subst h255
      have FIN := Lib.hid (fun w' hb => fin 255 w' (by omega) hb)
      clear fin HS
      go_wp2
      refine bodyPost_ret (v := .tuple #[.agg #[.int .i64 255, .int .i64 now], .int .i64 0]) (by simp [results, Try.results16, go_sem, b0, b1]) rfl ((FIN.out _ ?_).out)
      exact (B1.out.setCell (by simp) _).setCell (by simp) _
    · rw [if_neg h255] at HS
      have hlt : n < 255 := by omega
      by_cases h5 : n ≤ 5
      · have h5' : ¬ 5 < n := by omega
        rw [show manyN n = 1 by unfold manyN; omega] at HS
        simp at HS
        have FIN := Lib.hid (fun w' hb => fin (n + 1) w' (by omega) hb)
        clear fin HS
        go_wp2
        refine bodyPost_ret (v := .tuple #[.agg #[.int .i64 (n + 1), .int .i64 now], .int .i64 0]) (by simp [results, Try.results16, go_sem, b0, b1]) rfl ((FIN.out _ ?_).out)
        exact (B1.out.setCell (by simp) _).setCell (by simp) _
      · rw [show manyN n = 10 * (n - 5) + 1 by unfold manyN; omega] at HS
        have g1 : 5 < n := by omega
        clear h5
        by_cases hd : d % (10 * (n - 5) + 1) = 0
        · rw [if_pos hd] at HS
          have hdb : (d % (10 * (n - 5) + 1) == 0) = true := by simpa using hd
          have FIN := Lib.hid (fun w' hb => fin (n + 1) w' (by omega) hb)
          clear fin HS hd
          go_wp2
          refine bodyPost_ret (v := .tuple #[.agg #[.int .i64 (n + 1), .int .i64 now], .int .i64 0]) (by simp [results, Try.results16, go_sem, b0, b1]) rfl ((FIN.out _ ?_).out)
          exact (B1.out.setCell (by simp) _).setCell (by simp) _
        · rw [if_neg hd] at HS
          have hdb : (d % (10 * (n - 5) + 1) == 0) = false := by simpa using hd
          have FIN := Lib.hid (fun w' hb => fin n w' (by omega) hb)
          clear fin HS hd
          go_wp2
          refine bodyPost_ret (v := .tuple #[.agg #[.int .i64 n, .int .i64 now], .int .i64 0]) (by simp [results, Try.results16, go_sem, b0, b1]) rfl ((FIN.out _ ?_).out)
          exact (B1.out.setCell (by simp) _).setCell (by simp) _
  | false =>
    rw [hok] at HC
    clear hok
    obtain ⟨c, a⟩ := u
    unfold valU at *
    simp only [Bool.false_eq_true, if_false] at *
    go_enter Try.func16, Try.ntmps16
    go_wp2_with fail
    refine (HC _).out.mono ?_
    rintro e w1 ⟨rfl, hb⟩
    have B1 := Lib.hid (below2 (below2 hb))
    obtain ⟨b0, b1, b2, b3⟩ := facts2 (K1.out.later hb)
    clear hb K0 K1
    go_wp2
    refine bodyPost_ret (v := .tuple #[.agg #[.int .i64 0, .int .i64 0], .int .i64 130]) (by simp [results, Try.results16, go_sem, b0, b1]) rfl ⟨rfl, ?_⟩
    exact (B1.out.setCell (by simp) _).setCell (by simp) _
end Go.Proofs.Ytpjggdmfgoajbaa
