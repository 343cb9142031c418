/- The reference's set: putting in. -/
import Derived.Test.YtpaphfofjfjdlaaGreatQZRefOps
namespace Go.Proofs.YtpaphfofjfjdlaaGreat
open Go.RowKit Go.Shelf Sk
attribute [local go_sem] Oper.semAt_some

theorem RefC.sorted {W : World} {r : Nat} {E : List En} {le lm : Int} {isL : Bool} (h : RefC W r E le lm isL) (hE : E.length ≤ 1000) (hs : SrtE E) (hz : ∀ x ∈ E, x.1.size ≤ 64) (m : ByteArray) (hm : m.size ≤ 64) (s : Int) :
    ∃ a c, Blk W r 37 #[.slice a E.length c, .int .i64 le, .int .i64 lm, .bool isL] ∧ Calls Tryz.prog 52 #[.slice a E.length c, .agg #[.string m, .int .i64 s]] W fun e w' => ∃ v, e = .returned v ∧ Own48 w' W.heap.size v (putE E m s) ∧ Below W.heap.size W w' := by
  obtain ⟨a, c, h1, h2, h3⟩ := h.ex
  exact ⟨a, c, h1, ref_sorted a c E hE h2 hs (fun x hx => Nat.le_trans (hz x hx) (by omega)) m (by omega) s W h3⟩
theorem RefC.flag {W w0 : World} {r : Nat} {E : List En} {le lm : Int} {isL : Bool} (h : RefC W r E le lm isL) (hf : Far (fun k => k = r) w0 W) :
    RefC (W.setCell ⟨r, 3, none⟩ (.bool true)) r E le lm true ∧ Far (fun k => k = r) w0 (W.setCell ⟨r, 3, none⟩ (.bool true)) := by
  obtain ⟨a, c, hk, hc, hr⟩ := h.ex
  refine ⟨⟨a, c, ?_, hc, ?_⟩, hf.set _ _ (.inl rfl)⟩
  · have := hk.set 3 (.bool true)
    simpa using this
  · refine hr.far (far_set (S := fun k => k = r) W r 3 _ rfl) fun k cur _ g e => ?_
    rw [e] at g
    exact absurd (g.ty hk) (by decide)
theorem RefC.cells {W : World} {r : Nat} {E : List En} {le lm : Int} {isL : Bool} (h : RefC W r E le lm isL) : ∃ a c, Blk W r 37 #[.slice a E.length c, .int .i64 le, .int .i64 lm, .bool isL] := by
  obtain ⟨a, c, hk, _⟩ := h.ex
  exact ⟨a, c, hk⟩

theorem refadd_arg (p : Value) (m : ByteArray) (s lv : Int) (h : 64 < m.size ∨ lv < 1 ∨ 32 < lv) (hm : m.size ≤ 281474976710656) (w : World) :
    Calls Tryz.prog 36 #[p, .string m, .int .i64 s, .int .i64 lv] w fun e w' => e = .returned (.tuple #[.bool false, .int .i64 2]) ∧ w' = w := by
  by_cases h1 : 64 < m.size
  · have hb : (64 : Int) < m.size := by omega
    clear h
    go_enter Tryz.func36, Tryz.ntmps36
    go_wp2_with fail
    go_returns
    exact ⟨rfl, rfl⟩
  · have hb : ¬ (64 : Int) < m.size := by omega
    by_cases h2 : lv < 1
    · clear h
      go_enter Tryz.func36, Tryz.ntmps36
      go_wp2_with fail
      go_returns
      exact ⟨rfl, rfl⟩
    · have h3 : 32 < lv := by omega
      clear h
      go_enter Tryz.func36, Tryz.ntmps36
      go_wp2_with fail
      go_returns
      exact ⟨rfl, rfl⟩

set_option maxRecDepth 100000 in
set_option maxHeartbeats 4000000 in
theorem refadd_in {w : World} {r : Nat} {E : List En} {le lm : Int} {isL : Bool} (h : RefC w r E le lm isL) (hs : SrtE E) (hd : Dist E) (hz : ∀ x ∈ E, x.1.size ≤ 64) (h4 : E.length < 400) (m : ByteArray) (s lv : Int) (hm : m.size ≤ 64) (hv1 : 1 ≤ lv) (hv2 : lv ≤ 32) :
    Calls Tryz.prog 36 #[.pointer (some ⟨r, 0, none⟩), .string m, .int .i64 s, .int .i64 lv] w fun e w' => e = .returned (.tuple #[.bool (!hasE E m), .int .i64 0]) ∧ RefC w' r (addE E m s) le lm (isL || (decide (le < (addE E m s).length) || decide (lm < m.size))) ∧ Far (fun k => k = r) w w' := by
  have g1 : ¬ (64 : Int) < m.size := by omega
  have g2 : ¬ lv < 1 := by omega
  have g3 : ¬ 32 < lv := by omega
  have g4 : ¬ (E.length : Int) ≥ 400 := by omega
  obtain ⟨a, c, hk, hc, hr⟩ := h.ex
  have HF := Lib.hid (ref_find a c E (by omega) m w hr)
  obtain ⟨⟨c0, c1, c2, c3⟩, f0⟩ := facts4 hk
  obtain ⟨IL, hIL⟩ : ∃ b, (isL || (decide (le < ((addE E m s).length : Int)) || decide (lm < (m.size : Int)))) = b := ⟨_, rfl⟩
  obtain ⟨H, hH⟩ : ∃ b, hasE E m = b := ⟨_, rfl⟩
  rw [hIL, hH]
  have hhas := hasE_wh E m
  rw [hH] at hhas
  have HIL := Lib.hid hIL
  clear hH hIL
  cases hw : whE E m with
  | none =>
    rw [where_none hw] at HF
    rw [hw] at hhas
    have HV := Lib.hid (show (!H) = true by rw [hhas]; rfl)
    clear hhas
    have HN := Lib.hid (rmE_none (whE_none hw))
    have hso := ref_sorted a c E (by omega) hc hs (fun x hx => Nat.le_trans (hz x hx) (by omega)) m (by omega) s w hr
    rw [show putE E m s = addE E m s by unfold addE; rw [HN.out]] at hso
    have HSO := Lib.hid hso
    have HK2 := Lib.hid hk
    have HF2 := Lib.hid (Far.refl (fun k => k = r) w)
    clear hk hr hw h hso hs hz
    go_enter Tryz.func36, Tryz.ntmps36
    go_wp2_with fail
    refine HF.out.mono ?_
    rintro e w1 ⟨rfl, rfl⟩
    clear HF
    go_wp2_with fail
    refine HSO.out.mono ?_
    rintro e w3 ⟨v, rfl, ho, hb⟩
    have k3 := HK2.out.later hb
    have hR3 := RefC.put (w0 := w1) k3 ho (HF2.out.then_below hb)
    obtain ⟨⟨e0, _, _, _⟩, q0⟩ := facts4 k3
    obtain ⟨a', c', rfl, _⟩ := own_slice (l := addE E m s) ho
    have HR3 := Lib.hid hR3
    clear ho hb k3 HSO HK2 HF2 hR3 c0 c1 c2 c3 f0
    go_wp2_with fail
    obtain ⟨a4, c4, k4⟩ := HR3.out.1.cells
    generalize w3.setCell _ _ = wr at *
    obtain ⟨⟨x0, x1, x2, _⟩, _⟩ := facts4 k4
    have q1 := fun y : Ext wr => y.cell x0
    have q2 := fun y : Ext wr => y.cell x1
    have q3 := fun y : Ext wr => y.cell x2
    have hne := Ext.one wr
    have HR4 := Lib.hid HR3.out
    clear HR3 k4 x0 x1 x2 e0 q0
    by_cases hA : le < ((addE E m s).length : Int)
    · have HI := Lib.hid (show IL = true by rw [← HIL.out, decide_eq_true hA]; simp)
      refine region_ext (w1 := wr) (by kernel_rfl) (by kernel_rfl) (Below.refl _ _) ?_
      repeat go_big_quiet_step (fail)
      refine wpQuiet_nil ?_
      rintro _ ⟨y, rfl⟩
      have hr5 := HR4.out.1.later y.ok
      have hf5 := HR4.out.2.then_below y.ok
      obtain ⟨a5, c5, k5⟩ := hr5.cells
      have y3 := (facts4 k5).1.2.2.2
      have z3 := k5.free 3
      have HFL := Lib.hid (hr5.flag hf5)
      clear q1 q2 q3 hne hr5 hf5 k5 HR4
      go_wp2_with fail
      go_returns
      exact ⟨by rw [HV.out]; first | rfl | simp, by rw [HI.out]; exact HFL.out.1, HFL.out.2⟩
    · by_cases hB : lm < (m.size : Int)
      · have HI := Lib.hid (show IL = true by rw [← HIL.out, decide_eq_true hB]; simp)
        refine region_ext (w1 := wr) (by kernel_rfl) (by kernel_rfl) (Below.refl _ _) ?_
        repeat go_big_quiet_step (fail)
        refine wpQuiet_nil ?_
        rintro _ ⟨y, rfl⟩
        have hr5 := HR4.out.1.later y.ok
        have hf5 := HR4.out.2.then_below y.ok
        obtain ⟨a5, c5, k5⟩ := hr5.cells
        have y3 := (facts4 k5).1.2.2.2
        have z3 := k5.free 3
        have HFL := Lib.hid (hr5.flag hf5)
        clear q1 q2 q3 hne hr5 hf5 k5 HR4
        go_wp2_with fail
        go_returns
        exact ⟨by rw [HV.out]; first | rfl | simp, by rw [HI.out]; exact HFL.out.1, HFL.out.2⟩
      · have HI := Lib.hid (show IL = isL by rw [← HIL.out, decide_eq_false hA, decide_eq_false hB]; simp)
        refine region_ext (w1 := wr) (by kernel_rfl) (by kernel_rfl) (Below.refl _ _) ?_
        repeat go_big_quiet_step (fail)
        refine wpQuiet_nil ?_
        rintro _ ⟨y, rfl⟩
        have hr5 := HR4.out.1.later y.ok
        have hf5 := HR4.out.2.then_below y.ok
        obtain ⟨a5, c5, k5⟩ := hr5.cells
        have y3 := (facts4 k5).1.2.2.2
        have z3 := k5.free 3
        have HFL := Lib.hid (And.intro hr5 hf5)
        clear q1 q2 q3 hne hr5 hf5 k5 HR4
        go_wp2_with fail
        go_returns
        exact ⟨by rw [HV.out]; first | rfl | simp, by rw [HI.out]; exact HFL.out.1, HFL.out.2⟩
  | some i =>
    obtain ⟨e1, hi, e2⟩ := where_some hd hw
    rw [e1] at HF
    rw [hw] at hhas
    have HV := Lib.hid (show (!H) = false by rw [hhas]; rfl)
    clear hhas
    have HD := Lib.hid (Pk.refDelete_any a c E (by omega) hc i hi w (row_ents hr))
    rw [← e2] at HD
    have HK := Lib.hid hk
    have HS := Lib.hid (srt_rmE hs m)
    have HZ := Lib.hid (fun x (hx : x ∈ rmE E m) => hz x (mem_rmE.1 hx).1)
    have HLE := Lib.hid (show (rmE E m).length ≤ 1000 from Nat.le_trans (List.length_filter_le _ _) (by omega))
    clear hk hr hw h e1 e2 hs hz
    go_enter Tryz.func36, Tryz.ntmps36
    go_wp2_with fail
    refine HF.out.mono ?_
    rintro e w1 ⟨rfl, rfl⟩
    clear HF
    go_wp2_with fail
    refine HD.out.mono ?_
    rintro e w2 ⟨v, rfl, ho, hb⟩
    have k2 := HK.out.later hb
    have hR2 := RefC.put (x := .slice a E.length c) (w0 := w1) k2 (show Own48 w2 w1.heap.size v (rmE E m) from ho) (Far.of_below hb)
    obtain ⟨⟨e0, _, _, _⟩, q0⟩ := facts4 k2
    obtain ⟨a', c', rfl, _⟩ := own_slice (l := rmE E m) ho
    obtain ⟨a2, k3, hk2, hso⟩ := hR2.1.sorted HLE.out HS.out HZ.out m hm s
    rw [show putE (rmE E m) m s = addE E m s from rfl] at hso
    have HSO := Lib.hid hso
    have HK2 := Lib.hid hk2
    obtain ⟨⟨d0, _, _, _⟩, g0⟩ := facts4 hk2
    have HF2 := Lib.hid hR2.2
    clear c0 c1 c2 c3 f0 ho hb k2 HD HK hR2 hk2 hso HS HZ
    go_wp2_with fail
    refine HSO.out.mono ?_
    rintro e w3 ⟨v, rfl, ho, hb⟩
    have k3 := HK2.out.later hb
    have hR3 := RefC.put (w0 := w1) k3 ho (HF2.out.then_below hb)
    obtain ⟨⟨e5, _, _, _⟩, q5⟩ := facts4 k3
    obtain ⟨a', c', rfl, _⟩ := own_slice (l := addE E m s) ho
    have HR3 := Lib.hid hR3
    clear ho hb k3 HSO HK2 HF2 hR3 d0 g0 
    go_wp2_with fail
    obtain ⟨a4, c4, k4⟩ := HR3.out.1.cells
    generalize w3.setCell _ _ = wr at *
    obtain ⟨⟨x0, x1, x2, _⟩, _⟩ := facts4 k4
    have q1 := fun y : Ext wr => y.cell x0
    have q2 := fun y : Ext wr => y.cell x1
    have q3 := fun y : Ext wr => y.cell x2
    have hne := Ext.one wr
    have HR4 := Lib.hid HR3.out
    clear HR3 k4 x0 x1 x2 e5 q5
    by_cases hA : le < ((addE E m s).length : Int)
    · have HI := Lib.hid (show IL = true by rw [← HIL.out, decide_eq_true hA]; simp)
      refine region_ext (w1 := wr) (by kernel_rfl) (by kernel_rfl) (Below.refl _ _) ?_
      repeat go_big_quiet_step (fail)
      refine wpQuiet_nil ?_
      rintro _ ⟨y, rfl⟩
      have hr5 := HR4.out.1.later y.ok
      have hf5 := HR4.out.2.then_below y.ok
      obtain ⟨a5, c5, k5⟩ := hr5.cells
      have y3 := (facts4 k5).1.2.2.2
      have z3 := k5.free 3
      have HFL := Lib.hid (hr5.flag hf5)
      clear q1 q2 q3 hne hr5 hf5 k5 HR4
      go_wp2_with fail
      go_returns
      exact ⟨by rw [HV.out]; first | rfl | simp, by rw [HI.out]; exact HFL.out.1, HFL.out.2⟩
    · by_cases hB : lm < (m.size : Int)
      · have HI := Lib.hid (show IL = true by rw [← HIL.out, decide_eq_true hB]; simp)
        refine region_ext (w1 := wr) (by kernel_rfl) (by kernel_rfl) (Below.refl _ _) ?_
        repeat go_big_quiet_step (fail)
        refine wpQuiet_nil ?_
        rintro _ ⟨y, rfl⟩
        have hr5 := HR4.out.1.later y.ok
        have hf5 := HR4.out.2.then_below y.ok
        obtain ⟨a5, c5, k5⟩ := hr5.cells
        have y3 := (facts4 k5).1.2.2.2
        have z3 := k5.free 3
        have HFL := Lib.hid (hr5.flag hf5)
        clear q1 q2 q3 hne hr5 hf5 k5 HR4
        go_wp2_with fail
        go_returns
        exact ⟨by rw [HV.out]; first | rfl | simp, by rw [HI.out]; exact HFL.out.1, HFL.out.2⟩
      · have HI := Lib.hid (show IL = isL by rw [← HIL.out, decide_eq_false hA, decide_eq_false hB]; simp)
        refine region_ext (w1 := wr) (by kernel_rfl) (by kernel_rfl) (Below.refl _ _) ?_
        repeat go_big_quiet_step (fail)
        refine wpQuiet_nil ?_
        rintro _ ⟨y, rfl⟩
        have hr5 := HR4.out.1.later y.ok
        have hf5 := HR4.out.2.then_below y.ok
        obtain ⟨a5, c5, k5⟩ := hr5.cells
        have y3 := (facts4 k5).1.2.2.2
        have z3 := k5.free 3
        have HFL := Lib.hid (And.intro hr5 hf5)
        clear q1 q2 q3 hne hr5 hf5 k5 HR4
        go_wp2_with fail
        go_returns
        exact ⟨by rw [HV.out]; first | rfl | simp, by rw [HI.out]; exact HFL.out.1, HFL.out.2⟩
end Go.Proofs.YtpaphfofjfjdlaaGreat
