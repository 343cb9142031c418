/- The flags of words: Read. -/
import Derived.Test.YtnkgkimlmceciaaFold
namespace Go.Proofs.Ytnkgkimlmceciaa
open Go.RowKit Go.Shelf
attribute [local go_sem] Oper.semAt_some

theorem named_mk (a : Option Addr) (n c : Nat) (w : World) : Calls Try.prog 23 #[.slice a n c] w fun e w' => e = .returned (.func (.func 29) #[] #[.pointer (some ⟨w.heap.size, 0, none⟩)]) ∧ w' = w.alloc (Obj.cells #[.slice a n c] 30) := by
  go_enter Try.func23, Try.ntmps23
  go_wp2
  go_ret
  exact ⟨rfl, rfl⟩

/-- What a round of Read leaves. -/
theorem round_end {B n i : Nat} {w W W5 : World} {ks : List Nat} {c0 c1 c2 c3 c4 c5 v0 v1 v2 v3 v4 v5 : Value} (hn : n = w.heap.size) (hb : Below w.heap.size w W) (hb5 : Below W.heap.size W W5)
    (q0 : Blk W n 23 Fl.zero.c) (q1 : Blk W5 (n + 1) 23 #[c0, c1, c2, c3, c4, c5]) (q2 : Blk W5 (n + 2) 3 #[.int .i64 i]) (hf : (foldF (ks.take (i + 1))).c = #[v0, v1, v2, v3, v4, v5]) :
    KeepsFrom B W ((set6 W5 (n + 1) v0 v1 v2 v3 v4 v5).setCell ⟨n + 2, 0, none⟩ (.int .i64 ((i : Int) + 1))) ∧ KeepC [n + 1, n + 2] W ((set6 W5 (n + 1) v0 v1 v2 v3 v4 v5).setCell ⟨n + 2, 0, none⟩ (.int .i64 ((i : Int) + 1))) ∧
    Below w.heap.size w ((set6 W5 (n + 1) v0 v1 v2 v3 v4 v5).setCell ⟨n + 2, 0, none⟩ (.int .i64 ((i : Int) + 1))) ∧ Blk ((set6 W5 (n + 1) v0 v1 v2 v3 v4 v5).setCell ⟨n + 2, 0, none⟩ (.int .i64 ((i : Int) + 1))) n 23 Fl.zero.c ∧
    Blk ((set6 W5 (n + 1) v0 v1 v2 v3 v4 v5).setCell ⟨n + 2, 0, none⟩ (.int .i64 ((i : Int) + 1))) (n + 1) 23 (foldF (ks.take (i + 1))).c ∧ Blk ((set6 W5 (n + 1) v0 v1 v2 v3 v4 v5).setCell ⟨n + 2, 0, none⟩ (.int .i64 ((i : Int) + 1))) (n + 2) 3 #[.int .i64 (((i + 1 : Nat)) : Int)] := by
  rw [hf]
  refine ⟨?_, ?_, ?_, ?_, ?_, ?_⟩
  · exact ((KeepsFrom.of_grownBy (row := none) (below_grown hb5) (fun _ h => by cases h)).trans (set6_keeps B W5 (n + 1) v0 v1 v2 v3 v4 v5)).trans ((KeepsOthers.setCell _ _ _).from B)
  · exact ((KeepC.of_below hb5).trans (set6_keepc [n + 1, n + 2] W5 (n + 1) (by simp) v0 v1 v2 v3 v4 v5)).trans (KeepC.set _ _ _ _ (by simp))
  · exact (set6_below (hb.trans (hb5.mono hb.size)) (by omega) v0 v1 v2 v3 v4 v5).setCell (p := ⟨n + 2, 0, none⟩) (show w.heap.size ≤ n + 2 by omega) _
  · exact (set6_other (q0.later hb5) (by omega) v0 v1 v2 v3 v4 v5).setOther 0 _ (by omega)
  · exact (set6_blk q1 v0 v1 v2 v3 v4 v5).setOther 0 _ (by omega)
  · exact (set6_other q2 (by omega) v0 v1 v2 v3 v4 v5).set 0 _

set_option maxRecDepth 100000 in
set_option maxHeartbeats 4000000 in
theorem read_core (l : List ByteArray) (hl : l.length ≤ 1000000000) (pa : Option Addr) (pn cp : Nat) (w : World)
    (HSQ : ∀ W0, Below w.heap.size w W0 → Blk W0 (w.heap.size + 3) 30 #[.slice pa pn cp] → SeqX Try.prog 29 #[.pointer (some ⟨w.heap.size + 3, 0, none⟩)] encK (kindsOf l) [w.heap.size + 1, w.heap.size + 2] W0) :
    Calls Try.prog 14 #[.slice pa pn cp] w fun e w' => e = .returned (readT l) ∧ Below w.heap.size w w' := by
  have HSQ' := Lib.hid HSQ
  clear HSQ
  refine (callsIn_wide (n := 6)).1 (callsIn_of_wp_marks Try.func14 rfl trivial ?_ rfl)
  refine wpIn_wide.2 ?_
  simp only [Try.ntmps14, List.size_toArray, List.length_cons, List.length_nil, Nat.reduceAdd, Nat.reduceSub, Array.replicate_succ, Array.replicate_zero, List.push_toArray, List.append_toArray, List.nil_append, List.cons_append]
  go_wp2_with fail
  refine (named_mk _ _ _ _).mono ?_
  rintro e w1 ⟨rfl, rfl⟩
  go_wp2
  obtain ⟨W0, hW0⟩ : ∃ W0, W0 = (((w.alloc (.cells Fl.zero.c 23)).alloc (.cells Fl.zero.c 23)).alloc (.cells #[.int .i64 0] 3)).alloc (.cells #[.slice pa pn cp] 30) := ⟨_, rfl⟩
  have hB : Below w.heap.size w W0 := by rw [hW0]; exact (((((Below.refl _ _).alloc (Nat.le_refl _) _).alloc (by simp) _).alloc (by simp; omega) _).alloc (by simp; omega) _)
  have hs0 : W0.heap.size = w.heap.size + 4 := by rw [hW0]; simp
  have k0 : Blk W0 w.heap.size 23 Fl.zero.c := by rw [hW0]; exact (((Blk.new w 23 _).alloc _).alloc _).alloc _
  have k1 : Blk W0 (w.heap.size + 1) 23 Fl.zero.c := by
    have h := Blk.new (w.alloc (.cells Fl.zero.c 23)) 23 Fl.zero.c
    rw [World.size_alloc] at h
    rw [hW0]; exact (h.alloc _).alloc _
  have k2 : Blk W0 (w.heap.size + 2) 3 #[.int .i64 0] := by
    have h := Blk.new ((w.alloc (.cells Fl.zero.c 23)).alloc (.cells Fl.zero.c 23)) 3 #[.int .i64 0]
    simp only [World.size_alloc] at h
    rw [hW0]; exact h.alloc _
  have k3 : Blk W0 (w.heap.size + 3) 30 #[.slice pa pn cp] := by
    have h := Blk.new (((w.alloc (.cells Fl.zero.c 23)).alloc (.cells Fl.zero.c 23)).alloc (.cells #[.int .i64 0] 3)) 30 #[.slice pa pn cp]
    simp only [World.size_alloc] at h
    rw [hW0]; exact h
  have hseq := HSQ'.out W0 hB k3
  have hn := kinds_le l
  have hkl := kinds_lt l
  have HK := Lib.hid hkl
  clear k3 hkl HSQ'
  have hW0' := hW0
  unfold Fl.c Fl.zero at hW0'
  simp only at hW0'
  rw [← hW0']
  have HW := Lib.hid hW0
  clear hW0 hW0'
  generalize hks : kindsOf l = ks at *
  refine (wpIn_wide (n := 6)).1 (range_x (gf := 29) (lb := #[.pointer (some ⟨w.heap.size + 3, 0, none⟩)]) (encs := encK) (xs := ks) (L := [w.heap.size + 1, w.heap.size + 2]) rfl (enters_of Try.func29 (by kernel_rfl) rfl) hseq (fun _ _ => rfl)
    (fun i W => Below w.heap.size w W ∧ Blk W w.heap.size 23 Fl.zero.c ∧ Blk W (w.heap.size + 1) 23 (foldF (ks.take i)).c ∧ Blk W (w.heap.size + 2) 3 #[.int .i64 i])
    (fun _ _ _ => False)
    ?hI ?hIx ?h0 (fun i x a' W => ∃ C : Nat, Blk W C 47 (flagC x) ∧ a' = { tmps := #[.slice pa pn cp, undef,
          .pointer (some ⟨w.heap.size, 0, none⟩), .int .i64 0, .int .i64 0, .pointer (some ⟨w.heap.size + 1, 0, none⟩), .pointer (some ⟨w.heap.size + 2, 0, none⟩), .pointer (some ⟨C, 0, none⟩),
          .slice pa pn cp, .func (.func 29) #[] #[.pointer (some ⟨w.heap.size + 3, 0, none⟩)], .agg (flagC x), undef, undef, undef, undef, undef, undef, undef, undef, undef, undef, undef, undef], defers := [] })
    ?hAx ?assign ?body ?done ?stop)
  case hI => exact (own_below _ w (by omega)).and ((own_blk _ _ _ _).and ((own_blk _ _ _ _).and (own_blk _ _ _ _)))
  case hIx => exact fun c => own_pure _ _
  case hAx => exact fun i x a' => own_ex fun C => (own_blk _ _ _ _).and (own_pure _ _)
  case h0 => exact ⟨hB, k0, k1, k2⟩
  case assign =>
    rintro y i x W K hx' ⟨hb, q0, q1, q2⟩ hK
    unfold encK flagC fn_
    have hbs := hb.size
    gi_wp2
    refine hK _ _ ((KeepsOthers.alloc _ _).from _) (KeepC.of_below ((Below.refl _ _).alloc (Nat.le_refl _) _)) ⟨hb.alloc hb.size _, q0.alloc _, q1.alloc _, q2.alloc _⟩ ⟨W.heap.size, Blk.new _ _ _, rfl⟩
  case body =>
    rintro y i x a' W hx' ⟨hb, q0, q1, q2⟩ ⟨C, qC, rfl⟩
    have hst := foldF_step ks i x hx'
    have hx6 := HK.out x (List.mem_of_getElem? hx')
    have hil : i < ks.length := (List.getElem?_eq_some_iff.1 hx').1
    have hi9 : (i : Int) ≤ 1000000000 := by omega
    unfold flagC fn_ at qC
    have x1 := qC.cell 1
    obtain ⟨c2, g2⟩ := facts1 q2
    generalize foldF (ks.take i) = f at *
    obtain ⟨nx, xx, gt, lt, ch, inc⟩ := f
    unfold Fl.c at q1
    simp only at q1
    have a0 := q1.cell 0
    have a1 := q1.cell 1
    have a2 := q1.cell 2
    have a3 := q1.cell 3
    have a4 := q1.cell 4
    have a5 := q1.cell 5
    simp at a0 a1 a2 a3 a4 a5 x1
    have HS := Lib.hid hst
    have Q1 := Lib.hid q1
    have Q2 := Lib.hid q2
    have Q0 := Lib.hid q0
    have HB := Lib.hid hb
    clear hst q1 q2 q0 hb k0 k1 k2 hseq qC hx'
    obtain rfl | rfl | rfl | rfl | rfl | rfl : x = 0 ∨ x = 1 ∨ x = 2 ∨ x = 3 ∨ x = 4 ∨ x = 5 := by omega
    all_goals have HC := fun w => Lib.hid (set_any _ hx6 ⟨nx, xx, gt, lt, ch, inc⟩ w)
    all_goals unfold Fl.v Fl.c at HC
    all_goals simp only [Fl.set] at HC
    all_goals gi_wp2_with fail
    all_goals refine ⟨trivial, ?_⟩
    all_goals refine (CallsIn.inRound y (callsIn_wide.2 (HC _).out)).mono ?_
    all_goals rintro e W5 ⟨rfl, hb5⟩
    all_goals have q15 := Q1.out.later hb5
    all_goals have q25 := Q2.out.later hb5
    all_goals clear a0 a1 a2 a3 a4 a5 c2 g2 x1
    all_goals have a0 := q15.cell 0
    all_goals have a1 := q15.cell 1
    all_goals have a2 := q15.cell 2
    all_goals have a3 := q15.cell 3
    all_goals have a4 := q15.cell 4
    all_goals have a5 := q15.cell 5
    all_goals have g0 := q15.free 0
    all_goals have g1 := q15.free 1
    all_goals have g2 := q15.free 2
    all_goals have g3 := q15.free 3
    all_goals have g4 := q15.free 4
    all_goals have g5 := q15.free 5
    all_goals simp at a0 a1 a2 a3 a4 a5
    all_goals obtain ⟨c2, o2⟩ := facts1 q25
    all_goals have Q15 := Lib.hid q15
    all_goals have Q25 := Lib.hid q25
    all_goals have HB5 := Lib.hid hb5
    all_goals clear q15 q25 hb5 HC
    all_goals gi_wp2_with fail
    all_goals exact round_end rfl HB.out HB5.out Q0.out Q15.out Q25.out (by rw [HS.out]; rfl)
  case done =>
    rintro D W hD ⟨hb, q0, q1, q2⟩ hK
    rw [List.take_length] at q1
    have hr : readF l = foldF ks := by unfold readF; rw [hks]
    have HRT := Lib.hid (show readT l = if (foldF ks).right then .tuple #[(foldF ks).v, .int .i64 ks.length, .int .i64 0] else .tuple #[Fl.zero.v, .int .i64 0, .int .i64 110] by unfold readT; rw [hr, hks])
    obtain ⟨c2, o2⟩ := facts1 q2
    generalize foldF ks = f at *
    obtain ⟨nx, xx, gt, lt, ch, inc⟩ := f
    have HRR := fun w => Lib.hid (right_any ⟨nx, xx, gt, lt, ch, inc⟩ w)
    unfold Fl.v Fl.c at HRR
    unfold Fl.c at q1 q0
    unfold Fl.zero at q0
    simp only at q1 q0 HRR
    have a0 := q1.cell 0
    have a1 := q1.cell 1
    have a2 := q1.cell 2
    have a3 := q1.cell 3
    have a4 := q1.cell 4
    have a5 := q1.cell 5
    simp at a0 a1 a2 a3 a4 a5
    have Q1 := Lib.hid q1
    have Q2 := Lib.hid q2
    have Q0 := Lib.hid q0
    have HB := Lib.hid hb
    have HD := Lib.hid hK
    clear q1 q2 q0 hb k0 k1 k2 hseq hr hks hK
    simp only [Exit.inBlock, Exit.then]
    go_wp2_with fail
    refine (HRR _).out.mono ?_
    rintro e W5 ⟨rfl, hb5⟩
    have q15 := Q1.out.later hb5
    have q25 := Q2.out.later hb5
    have q05 := Q0.out.later hb5
    clear a0 a1 a2 a3 a4 a5 c2 o2
    have a0 := q15.cell 0
    have a1 := q15.cell 1
    have a2 := q15.cell 2
    have a3 := q15.cell 3
    have a4 := q15.cell 4
    have a5 := q15.cell 5
    have b0 := q05.cell 0
    have b1 := q05.cell 1
    have b2 := q05.cell 2
    have b3 := q05.cell 3
    have b4 := q05.cell 4
    have b5 := q05.cell 5
    have g0 := q05.free 0
    have g1 := q05.free 1
    have g2 := q05.free 2
    have g3 := q05.free 3
    have g4 := q05.free 4
    have g5 := q05.free 5
    simp at a0 a1 a2 a3 a4 a5 b0 b1 b2 b3 b4 b5
    obtain ⟨c2, o2⟩ := facts1 q25
    have Q25 := Lib.hid q25
    have Q15 := Lib.hid q15
    have Q05 := Lib.hid q05
    have HB5 := Lib.hid hb5
    clear q15 q25 q05 hb5 HRR
    cases hrt : Fl.right ⟨nx, xx, gt, lt, ch, inc⟩
    · go_wp2_with fail
      have hDW : W5.heap[D]? = some (.deferred (some [])) := (HB5.out.block D (Array.getElem?_eq_some_iff.1 HD.out).1).trans HD.out
      have hDn : D ≠ w.heap.size := by omega
      have hD2 := (set6_heap (W := W5) hDn (.bool false) (.bool false) (.bool false) (.bool false) (.bool false) (.bool false)).trans hDW
      have KF := (set6_blk Q05.out (.bool false) (.bool false) (.bool false) (.bool false) (.bool false) (.bool false)).put (.deferred none) (Ne.symm hDn)
      have r0 := KF.cell 0
      have r1 := KF.cell 1
      have r2 := KF.cell 2
      have r3 := KF.cell 3
      have r4 := KF.cell 4
      have r5 := KF.cell 5
      simp only [set6] at r0 r1 r2 r3 r4 r5 hD2
      simp at r0 r1 r2 r3 r4 r5
      exact leave (v := .tuple #[.agg #[.bool false, .bool false, .bool false, .bool false, .bool false, .bool false], .int .i64 0, .int .i64 110]) rfl hD2 (by simp [results, Try.results14, go_sem, r0, r1, r2, r3, r4, r5]) ⟨ret_v (by rw [HRT.out, hrt]; rfl), below_put (set6_below (HB.out.trans (HB5.out.mono HB.out.size)) (Nat.le_refl _) (.bool false) (.bool false) (.bool false) (.bool false) (.bool false) (.bool false)) (by omega) _⟩
    · go_wp2_with fail
      go_region
      go_wp2_with fail
      have hDW : W5.heap[D]? = some (.deferred (some [])) := (HB5.out.block D (Array.getElem?_eq_some_iff.1 HD.out).1).trans HD.out
      have hDn : D ≠ w.heap.size := by omega
      have hD2 : (set6 W5 w.heap.size (.bool nx) (.bool xx) (.bool gt) (.bool lt) (.bool ch) (.bool inc)).drew.heap[D]? = some (.deferred (some [])) := (set6_heap (W := W5) hDn (.bool nx) (.bool xx) (.bool gt) (.bool lt) (.bool ch) (.bool inc)).trans hDW
      have KF := (set6_blk Q05.out (.bool nx) (.bool xx) (.bool gt) (.bool lt) (.bool ch) (.bool inc)).drew.put (.deferred none) (Ne.symm hDn)
      have r0 := KF.cell 0
      have r1 := KF.cell 1
      have r2 := KF.cell 2
      have r3 := KF.cell 3
      have r4 := KF.cell 4
      have r5 := KF.cell 5
      simp only [set6] at r0 r1 r2 r3 r4 r5 hD2
      simp at r0 r1 r2 r3 r4 r5
      have hBF := below_put (D := D) (set6_below (HB.out.trans (HB5.out.mono HB.out.size)) (Nat.le_refl _) (.bool nx) (.bool xx) (.bool gt) (.bool lt) (.bool ch) (.bool inc)).drew (by omega) (.deferred none)
      simp only [set6] at hBF
      refine leave (v := .tuple #[.agg #[.bool nx, .bool xx, .bool gt, .bool lt, .bool ch, .bool inc], .int .i64 ks.length, .int .i64 0]) rfl hD2 ?_ ⟨ret_v ?_, hBF⟩
      · simp [results, Try.results14, go_sem, r0, r1, r2, r3, r4, r5]
      · rw [HRT.out, hrt]; rfl
  case stop =>
    rintro D c j W hD hI hK
    exact hI.elim

set_option maxRecDepth 100000 in
set_option maxHeartbeats 4000000 in
theorem named_nil (b : Nat) (L : List Nat) (w : World) (h1 : Blk w b 30 #[.slice none 0 0]) : SeqX Try.prog 29 #[.pointer (some ⟨b, 0, none⟩)] encK [] L w := by
  intro y J Jx W hW hJ hJx hY hJ0
  have k1 := h1.later hW
  refine callsIn_of_wp Try.func29 rfl trivial ?_ rfl
  simp only [Try.ntmps29, List.size_toArray, List.length_cons, List.length_nil, Nat.reduceAdd, Nat.reduceSub, Array.replicate_succ, Array.replicate_zero, List.push_toArray, List.append_toArray, List.nil_append, List.cons_append]
  obtain ⟨a0, b0⟩ := facts1 k1
  clear hY
  gi_wp2
  gi_loopw [9] (fun s wr => s = .int .i64 0 ∧ wr = W) (fun _ _ => 0)
  case atStart => exact ⟨rfl, rfl⟩
  case round =>
    obtain ⟨rfl, rfl⟩ := hrel
    gi_wp2
    go_end0
    exact ⟨⟨_, rfl⟩, .inl hJ0⟩
theorem read_any (l : List ByteArray) (hl : l.length ≤ 1000000000) (v : Value) (w : World) (hv : Words w v l) : Calls Try.prog 14 #[v] w fun e w' => e = .returned (readT l) ∧ Below w.heap.size w w' := by
  rcases hv with ⟨rfl, rfl⟩ | ⟨b, cap, cur, rfl, h2, h3⟩
  · exact read_core [] hl none 0 0 w fun W0 _ hb => named_nil _ _ _ hb
  · have hlt := h2.lt
    exact read_core l hl _ _ _ w fun W0 hB hb => named_any l hl b (w.heap.size + 3) cap cur _ W0 (by simp; omega) (h2.later hB) h3 hb
end Go.Proofs.Ytnkgkimlmceciaa
