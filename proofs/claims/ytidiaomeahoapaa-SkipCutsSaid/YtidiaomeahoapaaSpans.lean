/- Spans. -/
import Derived.Test.YtidiaomeahoapaaRowsOf
namespace Go.Proofs.Ytidiaomeahoapaa
open Go.RowKit Go.Shelf
attribute [local go_sem] Oper.semAt_some

theorem spans_nil (v : Int) (w : World) : Calls Try.prog 21 #[.pointer none, .int .i64 v] w fun e w' => e = .returned (.slice none 0 0) ∧ w' = w := by
  go_enter Try.func21, Try.ntmps21
  go_wp2
  go_returns
  exact ⟨rfl, rfl⟩
theorem spans_out (p : Addr) (v : Int) (hv : v < 1 ∨ 32 < v) (w : World) : Calls Try.prog 21 #[.pointer (some p), .int .i64 v] w fun e w' => e = .returned (.slice none 0 0) ∧ w' = w := by
  by_cases h1 : v < 1
  · clear hv
    go_enter Try.func21, Try.ntmps21
    go_wp2
    go_returns
    exact ⟨rfl, rfl⟩
  · have h2 : 32 < v := by omega
    clear hv
    go_enter Try.func21, Try.ntmps21
    go_wp2
    go_returns
    exact ⟨rfl, rfl⟩

/-- The differences of places. -/
def diffs (q : Nat) : List Nat → List Int
  | [] => []
  | x :: r => ((x : Int) - q) :: diffs x r
theorem diffs_take (q : Nat) : ∀ (l : List Nat) (i x : Nat), l[i]? = some x → diffs q (l.take (i + 1)) = diffs q (l.take i) ++ [(x : Int) - ((q :: l)[i]?.getD 0)] := by
  intro l
  induction l generalizing q with
  | nil => intro i x h; simp at h
  | cons y l ih =>
    intro i x h
    cases i with
    | zero => simp at h; subst h; simp [diffs]
    | succ i =>
      have := ih y i x (by simpa using h)
      simp only [List.take_succ_cons, diffs, List.cons_append]
      rw [this]
      simp
theorem diffs_len (q : Nat) (l : List Nat) : (diffs q l).length = l.length := by
  induction l generalizing q with
  | nil => rfl
  | cons y l ih => simp [diffs, ih]

variable {F : List Nd} {ah : Nat → Value} {n : Int}
set_option maxRecDepth 100000 in
set_option maxHeartbeats 4000000 in
theorem spans_any (p : Nat) (L : List Nd) (hF : F = hd p :: L) (w : World) (hw : Sk w F (lk0 F) ah n) (hN : F.length ≤ 1000000) (k : Nat) (hk : k < 32) :
    Calls Try.prog 21 #[.pointer (some ⟨p, 0, none⟩), .int .i64 ((k : Int) + 1)] w fun e w' => ∃ r, e = .returned r ∧ Own3 w' w.heap.size r (diffs 0 (steps F k 0)) ∧ Below w.heap.size w w' := by
  have h32 : lev F 0 = 32 := by rw [hF]; rfl
  have had : adr F 0 = .pointer (some ⟨p, 0, none⟩) := by rw [hF]; rfl
  have hx0 : F[0]? = some (hd p) := by rw [hF]; rfl
  have hF0 : 0 < F.length := (List.getElem?_eq_some_iff.1 hx0).1
  have HST := fun w => Lib.hid (start_any p k w)
  refine (callsIn_wide (n := 6)).1 (callsIn_of_wp_marks Try.func21 rfl trivial ?_ rfl)
  refine wpIn_wide.2 ?_
  simp only [Try.ntmps21, List.size_toArray, List.length_cons, List.length_nil, Nat.reduceAdd, Nat.reduceSub, Array.replicate_succ, Array.replicate_zero, List.push_toArray, List.append_toArray, List.nil_append, List.cons_append]
  clear hF
  have hk1 : (k : Int) < 32 := by omega
  go_wp2_with fail
  refine (HST _).out.mono ?_
  rintro e w1 ⟨rfl, hb1⟩
  have kR := (Blk.new w 28 #[.slice none 0 0]).later hb1
  have hbw : Below w.heap.size w w1 := ((Below.refl _ _).alloc (Nat.le_refl _) _).trans (hb1.mono (by simp))
  have HR := Lib.hid kR
  have HBW := Lib.hid hbw
  clear hb1 kR hbw
  go_wp2_with fail
  have kA := Blk.new w1 69 #[.pointer (some ⟨p, 0, none⟩), .int .i64 (-1), .int .i64 k]
  have hb2 : Below w1.heap.size w1 (w1.alloc (.cells #[.pointer (some ⟨p, 0, none⟩), .int .i64 (-1), .int .i64 k] 69)) := (Below.refl _ _).alloc (Nat.le_refl _) _
  have kR2 := HR.out.later hb2
  have hB2 := HBW.out.trans (hb2.mono HBW.out.size)
  have hz1 := HBW.out.size
  have hzr := HR.out.lt
  have hsz2 : (w1.alloc (.cells #[.pointer (some ⟨p, 0, none⟩), .int .i64 (-1), .int .i64 k] 69)).heap.size = w1.heap.size + 1 := by simp
  generalize w1.alloc (.cells #[.pointer (some ⟨p, 0, none⟩), .int .i64 (-1), .int .i64 k] 69) = w2 at *
  have hS2 := hw.later hB2
  have hnB : ¬ isB F w1.heap.size := hS2.not_ty kA (fun q => (ty_ne q).1)
  have hseq := forth_any F ah n w2 k 0 (hd p) hk hx0 hk hN [w1.heap.size] hS2 (by simpa using hnB) (by simp [hsz2])
  unfold stp at hseq
  rw [had] at hseq
  have hlx : ∀ i x, (steps F k 0)[i]? = some x → 0 < x ∧ x < F.length := fun i x h => by have := mem_steps.1 (List.mem_of_getElem? h); exact ⟨this.1, this.2.1⟩
  have hsl : (steps F k 0).length ≤ F.length := by unfold steps; refine Nat.le_trans (List.length_filter_le _ _) (by simp)
  generalize hxs : steps F k 0 = xs at *
  refine (wpIn_wide (n := 6)).1 (range_f (gf := 38) (encs := encQ F k) (xs := xs) (L := [w1.heap.size]) rfl (enters_of Try.func38 (by kernel_rfl) rfl) hseq (fun _ _ => rfl)
    (fun i V => ∃ r, (i ≤ xs.length ∧ Blk V w1.heap.size 69 (boxQ F k ((0 :: xs)[i]?.getD 0)) ∧ Blk V w.heap.size 28 #[r]) ∧ Own3 V (w1.heap.size + 1) r (diffs 0 (xs.take i)) ∧ Below w.heap.size w V)
    (fun _ _ _ => False)
    ?hI (fun _ => own_pure _ _) ?hIa (fun _ _ _ _ _ _ h _ => h) ?h0 (fun _ x a' V => ∃ c, (c ≠ w1.heap.size ∧ w2.heap.size ≤ c ∧ a' = { tmps := #[.pointer (some ⟨p, 0, none⟩), .int .i64 ((k : Int) + 1), undef, undef, .slice none 0 0, .pointer (some ⟨w.heap.size, 0, none⟩), .pointer (some ⟨w1.heap.size, 0, none⟩), .pointer (some ⟨c, 0, none⟩), .pointer (some ⟨p, 0, none⟩), .bool false, .bool false, .int .i64 ((k : Int) + 1), .bool (decide ((k : Int) + 1 < 1)), .bool (decide ((k : Int) + 1 < 1)), .bool (decide ((k : Int) + 1 < 1)), .int .i64 ((k : Int) + 1), .bool (decide (32 < (k : Int) + 1)), .bool (decide ((k : Int) + 1 < 1) || decide (32 < (k : Int) + 1)), .pointer (some ⟨p, 0, none⟩), .int .i64 ((k : Int) + 1), .int .i64 k, .agg #[.pointer (some ⟨p, 0, none⟩), .int .i64 (-1), .int .i64 k], .agg #[.pointer (some ⟨p, 0, none⟩), .int .i64 (-1), .int .i64 k], .func (.func 38) #[.agg #[.pointer (some ⟨p, 0, none⟩), .int .i64 (-1), .int .i64 k]] #[], stp F k x, undef, undef, undef, undef, undef, undef, undef, undef, undef, undef], defers := [] }) ∧ Blk V c 69 (boxQ F k x)) ?hAx ?assign ?body ?done (fun _ _ _ _ _ h _ => h.elim))
  case hI => exact own_ex fun r => ((own_pure _ _).and ((own_blk _ _ _ _).and (own_blk _ _ _ _))).and ((own_gen _ _ _ _ _).and (own_below _ w hB2.size))
  case hIa =>
    rintro N hN2 i A B ⟨r, ⟨h1, h2, h3⟩, h4, h5⟩ hab
    exact ⟨r, ⟨h1, h2.aside hab (by omega), h3.aside hab (by omega)⟩, own_aside h4 hab (by decide), ((Far.of_below (S := fun _ => False) h5).aside hab (by omega)).below (fun _ h => h.elim) (Nat.le_refl _)⟩
  case h0 => exact ⟨_, ⟨Nat.zero_le _, by unfold boxQ; simp [had]; exact kA, kR2⟩, World.ownsRow_nil _ _ _ _, hB2⟩
  case hAx => exact fun i x a' => own_ex fun c => (own_pure _ _).and (own_blk _ _ _ _)
  case assign =>
    rintro l i x V K' hx' ⟨r, ⟨h1, h2, h3⟩, h4, h5⟩ hK
    obtain ⟨y, hy⟩ : ∃ y, F[x]? = some y := ⟨_, List.getElem?_eq_getElem (hlx i x hx').2⟩
    have hay := adr_some hy
    have HK3 := Lib.hid hK
    have HI := Lib.hid (And.intro h1 (And.intro h2 (And.intro h3 (And.intro h4 h5))))
    have hzV := h2.lt
    clear hK h1 h2 h3 h4 h5 hseq hx' hlx hS2 hnB kA kR2
    unfold encQ stp
    rw [hay]
    gi_wp2
    have hbV := (Below.refl V.heap.size V).alloc (Nat.le_refl _) (Obj.cells #[Value.pointer (some ⟨y.b, 0, none⟩), Value.int IntKind.i64 ((x : Int) - 1), Value.int IntKind.i64 k] 69)
    obtain ⟨h1, h2, h3, h4, h5⟩ := HI.out
    refine HK3.out _ _ (keeps_below hbV) (KeepC.of_below hbV) ⟨r, ⟨h1, h2.later hbV, h3.later hbV⟩, own_later h4 hbV, h5.trans (hbV.mono h5.size)⟩ ⟨V.heap.size, ⟨by omega, by omega, ?_⟩, ?_⟩
    · unfold stp; rw [hay]
    · unfold boxQ; rw [hay]; exact Blk.new _ _ _
  case body =>
    rintro l i x a' V hx' ⟨r, ⟨h1, h2, h3⟩, h4, h5⟩ ⟨c, ⟨hc1, hc2, rfl⟩, kc⟩
    have hil : i < xs.length := (List.getElem?_eq_some_iff.1 hx').1
    obtain ⟨y, hy⟩ : ∃ y, F[x]? = some y := ⟨_, List.getElem?_eq_getElem (hlx i x hx').2⟩
    have hay := adr_some hy
    have hxl := (hlx i x hx').2
    have hq : ((0 :: xs)[i]?.getD 0) < F.length := by
      cases i with
      | zero => simpa using hF0
      | succ j =>
        have : xs[j]? = some xs[j] := List.getElem?_eq_getElem (by omega)
        simp [this]
        exact (hlx j _ this).2
    have hdt := diffs_take 0 xs i x hx'
    generalize ((0 :: xs)[i]?.getD 0) = q at *
    obtain ⟨z, hz⟩ : ∃ z, F[q]? = some z := ⟨_, List.getElem?_eq_getElem hq⟩
    have haz := adr_some hz
    obtain ⟨g, cap, W7, hrun, hown7, hgrow⟩ := app_int h4 (Below.refl _ _) ((x : Int) - 1 - ((q : Int) - 1)) (by rw [diffs_len]; simp; omega) (by have := h2.lt; omega)
    have hdl : (diffs 0 (xs.take i)).length = i := by rw [diffs_len]; simp; omega
    rw [hdl] at hrun hown7
    obtain ⟨e0, e1⟩ := facts1 h3
    have kc' := kc
    have h2' := h2
    unfold boxQ at kc' h2'
    rw [hay] at kc'
    rw [haz] at h2'
    obtain ⟨f0, f1, f2, f3, f4, f5⟩ := facts3 kc'
    obtain ⟨d0, d1, d2, d3, d4, d5⟩ := facts3 h2'
    have hc7 := kc'.grown hgrow h4 (by decide)
    have hA7 := h2'.grown hgrow h4 (by decide)
    have hR7 := h3.grown hgrow h4 (by decide)
    obtain ⟨t0, t1⟩ := facts1 hR7
    obtain ⟨u0, u1, u2, u3, u4, u5⟩ := facts3 hc7
    obtain ⟨v0, v1, v2, v3, v4, v5⟩ := facts3 hA7
    have HSUB := Lib.hid (show (x : Int) - 1 - ((q : Int) - 1) = (x : Int) - q by omega)
    have HH := Lib.hid (And.intro h2 (And.intro h3 (And.intro h4 h5)))
    have HO := Lib.hid hown7
    have HG := Lib.hid hgrow
    have HA7 := Lib.hid hA7
    have HDT := Lib.hid hdt
    have HX := Lib.hid hx'
    clear h2 h3 h4 h5 hown7 hgrow hc7 hA7 hR7 hseq hdt kc kc' h2' hlx hx' hy hz hS2 hnB kA kR2
    gi_wp2_with (refine wpListIn_step fun K hK => ?_; refine stepIn_append rfl _ _ 28 28 rfl rfl rfl hrun ?_; refine hK _ _ ?_; clear hK K)
    obtain ⟨g2, g3, g4, g5⟩ := HH.out
    obtain ⟨a1, a2, a3, a4, a5⟩ := app_end g3 g4 (Below.refl _ _) HG.out HO.out (by omega) g5 (Nat.le_refl _) (by decide) (by simp [itT]) (by simp [itT]) w2.heap.size [w1.heap.size]
    have kA8 := HA7.out.setOther 0 (.slice (some ⟨g, 0, none⟩) (i + 1) cap) (show w1.heap.size ≠ w.heap.size by omega)
    generalize W7.setCell ⟨w.heap.size, 0, none⟩ (.slice (some ⟨g, 0, none⟩) (i + 1) cap) = W8 at *
    refine ⟨?_, ?_, _, ⟨hil, ?_, Blk.setOther3 a4 (by omega) _ _ _ _ _ _⟩, ?_, ?_⟩
    · exact keeps_trans a1 (keeps_trans (keeps_set kA8 0 _) (keeps_trans (keeps_set (kA8.set 0 _) 1 _) (keeps_set ((kA8.set 0 _).set 1 _) 2 _)))
    · exact a2.trans ((KeepC.set _ _ _ _ (by simp)).trans ((KeepC.set _ _ _ _ (by simp)).trans (KeepC.set _ _ _ _ (by simp))))
    · have := ((kA8.set 0 (.pointer (some ⟨y.b, 0, none⟩))).set 1 (.int .i64 ((x : Int) - 1))).set 2 (.int .i64 k)
      rw [List.getElem?_cons_succ, HX.out, Option.getD_some]
      unfold boxQ
      rw [hay]
      exact this
    · rw [HDT.out, ← HSUB.out]
      refine own_set (own_set (own_set ?_ _ _ _ (Nat.lt_succ_self _)) _ _ _ (Nat.lt_succ_self _)) _ _ _ (Nat.lt_succ_self _)
      exact a5
    · exact (a3.setCell (p := ⟨w1.heap.size, 0, none⟩) hz1 _).setCell (p := ⟨w1.heap.size, 1, none⟩) hz1 _ |>.setCell (p := ⟨w1.heap.size, 2, none⟩) hz1 _
  case done =>
    rintro Dd V hD ⟨r, ⟨h1, h2, h3⟩, h4, h5⟩ hVD
    clear hseq
    rw [List.take_of_length_le (Nat.le_refl _)] at h4
    obtain ⟨g0, g1⟩ := facts1 h3
    have HK := Lib.hid hVD
    have HO := Lib.hid h4
    have H5 := Lib.hid h5
    clear h1 h2 h3 h4 h5 hVD
    simp only [Exit.inBlock, Exit.then]
    go_wp2
    have hfin : (V.putObj Dd (.deferred none)).ownsRow w.heap.size 3 1 r _ _ := own_mono (ownsRow_putObj HO.out _ HK.out rfl) (by omega)
    exact leave rfl HK.out (results_tmp rfl _ _ _) ⟨_, rfl, hxs ▸ hfin, below_put H5.out (by have := hB2.size; omega) _⟩
end Go.Proofs.Ytidiaomeahoapaa
