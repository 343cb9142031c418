/- For any limits, seed, list of acts and ends of ranges the law ZsetRanges returns true, and leaves them as they are; no condition. -/
import Derived.Test.YtpaphfofjfjdlaaGreatQZRgLaw
import Derived.Test.YtpaphfofjfjdlaaGreatQZG
import Derived.Test.YtpaphfofjfjdlaaGreatQZEnds
namespace Go.Proofs.YtpaphfofjfjdlaaGreat.zsetRanges
open Go.ChangeShapes Go.WideShapes Go.ChangeAt Go.RowKit
open Go.ChangeMaps (open_string shut_string)
set_option linter.unusedVariables false

set_option maxRecDepth 100000 in
theorem lifted (os : Os) (started : os.Started) (H : Type) (enc : TypeId × Value → H) :
    ReturnsInHanded {} Tryz.checked os 4 .any (Rows.zsetRangesSpec.pre6 enc Tryz.prog Tryz.f4 Rows.zsetRangesRow.domain false) (Rows.zsetRangesSpec.post enc Tryz.prog Tryz.f4 false true false false) := by
  refine returnsInHanded_of_change_sized (C := Tryz.checked) own0 started (by kernel_rfl) Tryz.func4
    (ChangeSpec.witness6 (enc := enc) (C := Tryz.checked) false ⟨#[], #[.agg #[.int .i64 0, .int .i64 0], .int .u32 0, .slice none 0 0, .agg #[.int .i64 0, .bool false, .int .i64 0], .agg #[.int .i64 0, .bool false, .int .i64 0], .agg #[.string ByteArray.empty, .bool false, .int .i64 0], .agg #[.string ByteArray.empty, .bool false, .int .i64 0]], []⟩ 8 (by kernel_rfl) (by kernel_rfl) (by kernel_rfl) (by kernel_rfl)) ?_
  intro W base args ds gs before hval0 hW hcnd hsz0 _
  have hval : ∀ (j : Nat) t v, Tryz.f4.params[j]? = some t → args[j]? = some v → Value.okWide Tryz.prog W .any base t v := hval0
  have hW' := hW
  obtain ⟨p, q, hA0, hV, rfl, hfz, hnd⟩ := hW
  have hA : DataW.TrodAll enc Tryz.prog W 0 (fun _ => true) true Tryz.f4.params.toList args.toList ds p := hA0
  have hsz : (DataW.weightsEach Tryz.prog (Tryz.f4.params.toList ++ Rows.zsetRangesSpec.plain.varTypes Tryz.prog) (ds ++ gs)).all (· ≤ reachBytes) = true := hsz0
  rw [Tryz.params4] at hA hval hsz
  obtain ⟨v0, vs0, d0, ds0, p0, q0, hargs, rfl, rfl, h0, r0⟩ := trodAll_cons hA
  obtain ⟨v1, vs1, d1, ds1, p1, q1, rfl, rfl, rfl, h1, r1⟩ := trodAll_cons r0
  obtain ⟨v2, vs2, d2, ds2, p2, q2, rfl, rfl, rfl, h2, r2⟩ := trodAll_cons r1
  obtain ⟨v3, vs3, d3, ds3, p3, q3, rfl, rfl, rfl, h3, r3⟩ := trodAll_cons r2
  obtain ⟨v4, vs4, d4, ds4, p4, q4, rfl, rfl, rfl, h4, r4⟩ := trodAll_cons r3
  obtain ⟨v5, vs5, d5, ds5, p5, q5, rfl, rfl, rfl, h5, r5⟩ := trodAll_cons r4
  obtain ⟨v6, vs6, d6, ds6, p6, q6, rfl, rfl, rfl, h6, r6⟩ := trodAll_cons r5
  obtain ⟨rfl, rfl, rfl⟩ := trodAll_nil r6
  obtain rfl : args = #[v0, v1, v2, v3, v4, v5, v6] := by cases args; simp_all
  obtain ⟨rfl, rfl⟩ := trodVars_none hV
  have h0k := h0
  obtain ⟨a0, i0, rfl⟩ := open_limits (hval 0 23 v0 rfl rfl) h0
  obtain ⟨z1, rfl, rfl, rfl, w1⟩ := open_int Tryz.underlying24 (hval 1 24 v1 rfl rfl) h1
  have y1 := bounds_u32 w1
  obtain ⟨a1, rfl⟩ : ∃ a : Nat, z1 = (a : Int) := ⟨z1.toNat, by omega⟩
  have w1' : a1 < 4294967296 := by omega
  have h2k := h2
  obtain ⟨s2, len2, cap2, rfl⟩ := okWide_slice Tryz.underlying25 (hval 2 25 v2 rfl rfl)
  obtain ⟨a2, rfl, e2, n2, u2⟩ := acts_open h2
  have h3k := h3
  obtain ⟨a3, o3, i3, rfl⟩ := Bo.open_bound (hval 3 51 v3 rfl rfl) h3
  have h4k := h4
  obtain ⟨a4, o4, i4, rfl⟩ := Bo.open_bound (hval 4 51 v4 rfl rfl) h4
  have h5k := h5
  obtain ⟨a5, o5, i5, rfl, m5, hm5, hn5⟩ := Bo.open_edge (hval 5 53 v5 rfl rfl) h5
  have b5 := List.all_eq_true.1 hsz _ (DataW.weights_mem_each (j := 5) (t := 53) rfl rfl m5 hm5)
  have w5' : a5.size ≤ 281474976710656 := by rw [← hn5]; exact Nat.le_trans (of_decide_eq_true b5) (show reachBytes ≤ 281474976710656 by decide)
  have h6k := h6
  obtain ⟨a6, o6, i6, rfl, m6, hm6, hn6⟩ := Bo.open_edge (hval 6 53 v6 rfl rfl) h6
  have b6 := List.all_eq_true.1 hsz _ (DataW.weights_mem_each (j := 6) (t := 53) rfl rfl m6 hm6)
  have w6' : a6.size ≤ 281474976710656 := by rw [← hn6]; exact Nat.le_trans (of_decide_eq_true b6) (show reachBytes ≤ 281474976710656 by decide)
  clear hA0 hval0
  simp only [List.append_nil, List.nil_append] at hW'
  have hlt0 : ∀ y ∈ p0, y.block < W.heap.size := fun y hy => hW'.lt y (by simp [hy])
  have hlt2 : ∀ y ∈ p2, y.block < W.heap.size := fun y hy => hW'.lt y (by simp [hy])
  have hlt3 : ∀ y ∈ p3, y.block < W.heap.size := fun y hy => hW'.lt y (by simp [hy])
  have hlt4 : ∀ y ∈ p4, y.block < W.heap.size := fun y hy => hW'.lt y (by simp [hy])
  have hlt5 : ∀ y ∈ p5, y.block < W.heap.size := fun y hy => hW'.lt y (by simp [hy])
  have hlt6 : ∀ y ∈ p6, y.block < W.heap.size := fun y hy => hW'.lt y (by simp [hy])
  refine (ranges_walk a0 i0 _ _ rfl rfl a1 w1' s2 cap2 a2 n2 u2 a3 i3 a4 i4 o3 o4 a5 a6 w5' w6' o5 o6 i5 i6 W e2).mono fun e W' ⟨he, hg⟩ => ?_
  subst he
  exact ⟨_, rfl, _, _, _, [], _, [], hW', (trodAll_cons_mk (shut_bool Tryz.underlying4 _) trodAll_mk0), (trodAll_cons_mk (Below.trod laidOut0 (by kernel_rfl) (of_decide_eq_true (by kernel_rfl)) h0k hg hlt0) (trodAll_cons_mk (shut_int Tryz.underlying24 w1) (trodAll_cons_mk (Below.trod laidOut0 (by kernel_rfl) (of_decide_eq_true (by kernel_rfl)) h2k hg hlt2) (trodAll_cons_mk (Below.trod laidOut0 (by kernel_rfl) (of_decide_eq_true (by kernel_rfl)) h3k hg hlt3) (trodAll_cons_mk (Below.trod laidOut0 (by kernel_rfl) (of_decide_eq_true (by kernel_rfl)) h4k hg hlt4) (trodAll_cons_mk (Below.trod laidOut0 (by kernel_rfl) (of_decide_eq_true (by kernel_rfl)) h5k hg hlt5) (trodAll_cons_mk (Below.trod laidOut0 (by kernel_rfl) (of_decide_eq_true (by kernel_rfl)) h6k hg hlt6) trodAll_mk0))))))), rfl, hg.frame _, fun h => by cases h⟩

theorem over : Rows.zsetRangesRow.holds Tryz.pinned (OpenSpec.ofChange Rows.zsetRangesSpec) :=
  OpenClaim.holds_of_wide 4 Tryz.f4 rfl rfl rfl rfl rfl rfl rfl ⟨rfl, rfl, rfl, rfl, rfl⟩ rfl rfl rfl rfl rfl (by kernel_rfl) Tryz.func4 (by kernel_rfl)
    (of_decide_eq_true (by kernel_rfl)) (by unfold Func.isWrapper; first | (rw [if_pos (by decide +kernel)]; kernel_rfl) | (rw [if_neg (by decide +kernel)]; exact ⟨rfl, rfl⟩))
    (fun os started H enc _ => lifted os started H enc)

/-- ████ THE STATEMENT ████ -/
theorem proved : Rows.ZsetRangesSaid :=
  over
#print axioms proved
end Go.Proofs.YtpaphfofjfjdlaaGreat.zsetRanges
