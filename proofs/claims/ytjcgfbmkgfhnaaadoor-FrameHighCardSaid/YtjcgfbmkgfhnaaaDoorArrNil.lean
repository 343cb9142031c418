/- Array of nothing, to the cell; the box of an array. -/
import Derived.Test.YtjcgfbmkgfhnaaaDoorReplyOk
import Derived.Test.YtjcgfbmkgfhnaaaDoorInRound
import Derived.Test.YtjcgfbmkgfhnaaaDoorEncode
import Derived.Test.YtjcgfbmkgfhnaaaDoorArray
namespace Go.Proofs.YtjcgfbmkgfhnaaaDoor
open Go.RowKit Go.Shelf
attribute [local go_sem] Oper.semAt_some

set_option maxRecDepth 100000 in
set_option maxHeartbeats 2000000 in
theorem copies_nil (w : World) : Calls Tryd.prog 25 #[.slice none 0 0] w fun e w' => e = .returned (.slice none 0 0) ∧ Below w.heap.size w w' := by
  go_enter Tryd.func25, Tryd.ntmps25
  go_wp2
  refine wp_loop_rounds 1 ?_
  rw [rounds_succ]
  go_wp2
  go_ret
  exact ⟨rfl, Below.refl _ _⟩

set_option maxRecDepth 100000 in
set_option maxHeartbeats 2000000 in
theorem array_nil (w : World) : Calls Tryd.prog 19 #[.slice none 0 0] w fun e w' => e = .returned (.agg #[.int .i64 6, .int .i64 0, .string ⟨#[]⟩, .slice none 0 0]) ∧ Below w.heap.size w w' := by
  have hf : IsFo anyB w none .nil := IsFo.nil _ _ _
  have hdep : Fo.nil.depth ≤ 1000 := by simp [Fo.depth]
  refine (callsIn_wide (n := 6)).1 (callsIn_of_wp_marks Tryd.func19 rfl trivial ?_ rfl)
  refine wpIn_wide.2 ?_
  simp only [Tryd.ntmps19, List.size_toArray, List.length_cons, List.length_nil, Nat.reduceAdd, Nat.reduceSub, Array.replicate_succ, Array.replicate_zero, List.push_toArray, List.append_toArray, List.nil_append, List.cons_append]
  go_wp2_with (go_at_call 21; refine (all_any _ _ _ _).mono ?_; rintro e w' ⟨rfl, rfl⟩)
  have hB0 : Below w.heap.size w ((w.alloc (Obj.cells #[Value.int IntKind.i64 0, Value.int IntKind.i64 0, Value.string { data := #[] }, Value.slice none 0 0] 24)).alloc (Obj.cells #[Value.slice none 0 0] 22)) :=
    ((Below.refl _ _).alloc (Nat.le_refl _) _).alloc (by simp) _
  have hR : ((w.alloc (Obj.cells #[Value.int IntKind.i64 0, Value.int IntKind.i64 0, Value.string { data := #[] }, Value.slice none 0 0] 24)).alloc (Obj.cells #[Value.slice none 0 0] 22)).heap[w.heap.size]? = some (Obj.cells #[Value.int IntKind.i64 0, Value.int IntKind.i64 0, Value.string { data := #[] }, Value.slice none 0 0] 24 (0, 0)) :=
    (Below.heap_alloc _ _ _ (by simp)).trans (heap_at rfl)
  have hT := hf.same (Same24.of_below hB0)
  refine (wpIn_wide (n := 6)).1 (wpIn_rangeFunc_ownH (F := Fence.wide) rfl (by decide) (gf := 27) (lb := #[.pointer (some ⟨w.heap.size + 1, 0, none⟩)]) rfl trivial (enters_of Tryd.func27 (by kernel_rfl) rfl)
    (all_stops Fence.wide rfl 5 trivial trivial rfl (w.heap.size + 1) none 0 .nil _ (by simp) (Boxed.cell (t := 22) (heap_at (by simp))) hT (by omega))
    (fun h k => Same24.trans h k) Same24.bookkeeping (Below.refl _ _) (fun _ => rfl)
    (fun pre W => (W.heap[w.heap.size]? = some (Obj.cells #[Value.int IntKind.i64 0, Value.int IntKind.i64 0, Value.string { data := #[] }, Value.slice none 0 0] 24 (0, 0)) ∧ True) ∧ Below w.heap.size w W)
    (fun c pre _ => c = .ret ∧ ∃ x ∈ pre, 65536 < El.high x)
    (OwnFrom.and (Own.from (cells_own _ _ (fun _ => #[Value.int IntKind.i64 0, Value.int IntKind.i64 0, Value.string { data := #[] }, Value.slice none 0 0]) (fun _ => True)) _) (ownFrom_below (Nat.le_refl _) (by simp; omega)))
    (fun c => ownFrom_pure _ _)
    ⟨⟨hR, trivial⟩, hB0⟩
    (fun x a' _ => a' = { tmps := #[Value.slice none 0 0, undef, Value.pointer (some { block := w.heap.size, off := 0 }), .int .i64 x.high,
          Value.slice none 0 0,
          Value.func (Fn.func 27) #[] #[Value.pointer (some { block := w.heap.size + 1, off := 0 })], .int .i64 x.high, x.val,
          undef, undef, undef, undef, undef, undef], defers := [] })
    (fun x a' => fun _ _ _ _ h _ _ => h) ?assign ?body ?done ?stop)
  case assign =>
    rintro l pre x W K hI hK
    clear hB0 hR hT hf
    simp only [El.encs]
    gi_wp2
    exact hK _ _ (KeepsFrom.refl _ _) (Same24.refl _) hI rfl
  case body =>
    rintro l pre x a' W _ _ ⟨⟨hb, _⟩, hB⟩ rfl _
    clear hB0 hR hT hf
    have e0 : W.cell? ⟨w.heap.size, 0, none⟩ = some (.int .i64 0) := by rw [cell_in 0 hb]; rfl
    have e1 : W.cell? ⟨w.heap.size, 1, none⟩ = some (.int .i64 0) := by rw [cell_in 1 hb]; rfl
    have e2 : W.cell? ⟨w.heap.size, 2, none⟩ = some (.string ⟨#[]⟩) := by rw [cell_in 2 hb]; rfl
    have e3 : W.cell? ⟨w.heap.size, 3, none⟩ = some (.slice none 0 0) := by rw [cell_in 3 hb]; rfl
    have f0 := free_in 0 hb
    have f1 := free_in 1 hb
    have f2 := free_in 2 hb
    have f3 := free_in 3 hb
    have HB := Lib.hid hb
    clear hb
    gi_wp2
  case done =>
    rintro D ys W hD rfl ⟨⟨hb, _⟩, hB⟩ hK
    have HS := Lib.hid (copies_nil W)
    clear hB0 hR hT
    go_wp2_with fail
    refine HS.out.mono ?_
    rintro e W2 ⟨rfl, hbw2⟩
    have hx2 := (hbw2.block _ (Array.getElem?_eq_some_iff.1 hb).1).trans hb
    have hK2 := (hbw2.block _ (Array.getElem?_eq_some_iff.1 hK).1).trans hK
    have e0 : W2.cell? ⟨w.heap.size, 0, none⟩ = some (.int .i64 0) := by rw [cell_in 0 hx2]; rfl
    have e1 : W2.cell? ⟨w.heap.size, 1, none⟩ = some (.int .i64 0) := by rw [cell_in 1 hx2]; rfl
    have e2 : W2.cell? ⟨w.heap.size, 2, none⟩ = some (.string ⟨#[]⟩) := by rw [cell_in 2 hx2]; rfl
    have e3 : W2.cell? ⟨w.heap.size, 3, none⟩ = some (.slice none 0 0) := by rw [cell_in 3 hx2]; rfl
    have f0 := free_in 0 hx2
    have f1 := free_in 1 hx2
    have f2 := free_in 2 hx2
    have f3 := free_in 3 hx2
    have hDw : D < W.heap.size := (Array.getElem?_eq_some_iff.1 hK).1
    have hbw : w.heap.size < W.heap.size := (Array.getElem?_eq_some_iff.1 hb).1
    have HX := Lib.hid hx2
    have HK := Lib.hid hK2
    have HB := Lib.hid hB
    have HW := Lib.hid hbw2
    clear hK hK2 hb hB hx2 hbw2 hf HS
    go_wp2
    obtain ⟨g1, g2, g3⟩ := four_set (.int .i64 6) (.int .i64 0) (.string ⟨#[]⟩) (.slice none 0 0) HX.out
    have hDb : D ≠ w.heap.size := by have := hD; simp at this; omega
    have hK3 := (g2 D hDb).trans HK.out
    have hB3 := (HB.out.trans (HW.out.mono HB.out.size)).trans (g3 w.heap.size (Nat.le_refl _))
    have hDW : D < W2.heap.size := (Array.getElem?_eq_some_iff.1 HK.out).1
    generalize ((((W2.setCell { block := w.heap.size, off := 0 } (Value.int IntKind.i64 6)).setCell { block := w.heap.size, off := 1 } (Value.int IntKind.i64 0)).setCell
          { block := w.heap.size, off := 2 } (Value.string { data := #[] })).setCell { block := w.heap.size, off := 3 } (Value.slice none 0 0)) = W3 at *
    refine ⟨by simp, .inl ⟨_, _, rfl, run_takeDeferred hK3, ?_⟩⟩
    have hx4 := (World.putObj_heap_other (w := W3) (r := D) (o := .deferred none) (fun e => hDb e.symm)).trans g1
    have b0 := cell_in 0 hx4
    have b1 := cell_in 1 hx4
    have b2 := cell_in 2 hx4
    have b3 := cell_in 3 hx4
    refine ⟨.agg #[.int .i64 6, .int .i64 0, .string ⟨#[]⟩, .slice none 0 0], ?_, rfl, ?_⟩
    · simp [results, Tryd.f19, go_sem, b0, b1, b2, b3]
    · exact hB3.trans (belowK_b (w := w) (Nat.le_refl _) W3 D _ _ (by simp at hD; omega) hK3 rfl rfl)
  case stop =>
    rintro D c pre W hD hpre ⟨rfl, x, hx, hhi⟩ hK
    have := flat_high .nil 0 x (hpre.subset hx)
    omega


/-- Nothing, and one empty reply behind it. -/
theorem app_zero (W6 : World) : ∃ g cap w1 cur, (Builtin.append_ #[22, 22] 22 #[.slice none 0 0, .slice (some ⟨W6.heap.size, 0, none⟩) 1 1]).run Tryd.prog (W6.alloc (Obj.cells #[Value.int IntKind.i64 0, Value.int IntKind.i64 0, Value.string { data := #[] }, Value.slice none 0 0] 24)) = .ok (.slice (some ⟨g, 0, none⟩) 1 cap) w1 ∧
    (W6.alloc (Obj.cells #[Value.int IntKind.i64 0, Value.int IntKind.i64 0, Value.string { data := #[] }, Value.slice none 0 0] 24)).grownBy w1 none ∧ W6.heap.size ≤ g ∧ 1 ≤ cap ∧ w1.heap[g]? = some (Obj.cells cur 24 (0, 0)) ∧ cur[0]? = some (.int .i64 0) ∧ cur[1]? = some (.int .i64 0) ∧ cur[2]? = some (.string ⟨#[]⟩) ∧ cur[3]? = some (.slice none 0 0) := by
  obtain ⟨i0, hi0, hz0, hz1, hz2⟩ := info_parts Tryd.info24
  obtain ⟨v', w1, h1, h2, h3, _⟩ := run_append_own (P := Tryd.prog) (W6.alloc (Obj.cells #[Value.int IntKind.i64 0, Value.int IntKind.i64 0, Value.string { data := #[] }, Value.slice none 0 0] 24)) W6.heap.size 22 22 24 i0 _ 4 56 Tryd.underlying22 hi0 hz0 hz1 hz2 rfl (by omega) (.slice none 0 0) 0 [] (World.ownsRow_nil _ _ _ _) ⟨W6.heap.size, 0, none⟩ 1 1 [.int .i64 0, .int .i64 0, .string ⟨#[]⟩, .slice none 0 0] rfl
    (World.news_of_block (cs := #[Value.int IntKind.i64 0, Value.int IntKind.i64 0, Value.string { data := #[] }, Value.slice none 0 0]) (t := 24) (fr := (0, 0)) (heap_alloc_new _ _)) (one_cells _ _ _ _ _ _) (by unfold maxLen; omega) (by omega) (by simp)
  rcases h2.2 with ⟨_, h0⟩ | ⟨g, cap, cur, rfl, hg, hc, hn, _, _, ht⟩
  · cases h0
  · have at' : ∀ i, i < 4 → cur[i]? = ([.int .i64 0, .int .i64 0, .string ⟨#[]⟩, .slice none 0 0] : List Value)[i]? := fun i hi => by
      have h := congrArg (fun l => l[i]?) ht
      simp only [List.nil_append] at h
      rw [← h, List.getElem?_take_of_lt (by omega), Array.getElem?_toList]
    exact ⟨g, cap, w1, cur, h1, h3, hg, hn, hc, at' 0 (by omega), at' 1 (by omega), at' 2 (by omega), at' 3 (by omega)⟩

theorem app_zero_drew (W : World) : ∃ g cap w1 cur, (Builtin.append_ #[22, 22] 22 #[.slice none 0 0, .slice (some ⟨W.heap.size, 0, none⟩) 1 1]).run Tryd.prog (W.alloc (Obj.cells #[Value.int IntKind.i64 0, Value.int IntKind.i64 0, Value.string { data := #[] }, Value.slice none 0 0] 24)).drew = .ok (.slice (some ⟨g, 0, none⟩) 1 cap) w1 ∧
    (W.alloc (Obj.cells #[Value.int IntKind.i64 0, Value.int IntKind.i64 0, Value.string { data := #[] }, Value.slice none 0 0] 24)).grownBy w1 none ∧ W.heap.size ≤ g ∧ 1 ≤ cap ∧ w1.heap[g]? = some (Obj.cells cur 24 (0, 0)) ∧ cur[0]? = some (.int .i64 0) ∧ cur[1]? = some (.int .i64 0) ∧ cur[2]? = some (.string ⟨#[]⟩) ∧ cur[3]? = some (.slice none 0 0) := by
  obtain ⟨g, cap, w1, cur, h1, h2, h3⟩ := app_zero W.drew
  exact ⟨g, cap, w1, cur, h1, ⟨h2.os, h2.tape, h2.output, h2.size, h2.block⟩, h3⟩

/-- The array's box: nothing yet, or something. -/
def ArrBox (p : Nat) (pre : List R4) (W : World) : Prop :=
  (pre = [] → W.heap[p]? = some (Obj.cells #[Value.int IntKind.i64 6, Value.int IntKind.i64 0, Value.string { data := #[] }, Value.slice none 0 0] 24 (0, 0))) ∧
  (pre ≠ [] → ∃ a l c, W.heap[p]? = some (Obj.cells #[Value.int IntKind.i64 6, Value.int IntKind.i64 0, Value.string { data := #[] }, Value.slice a l c] 24 (0, 0)))
theorem ArrBox.keep {p : Nat} {pre : List R4} {A B : World} (h : ArrBox p pre A) (hk : p < A.heap.size → B.heap[p]? = A.heap[p]?) : ArrBox p pre B :=
  ⟨fun e => (hk (Array.getElem?_eq_some_iff.1 (h.1 e)).1).trans (h.1 e), fun e => by obtain ⟨a, l, c, hp⟩ := h.2 e; exact ⟨a, l, c, (hk (Array.getElem?_eq_some_iff.1 hp).1).trans hp⟩⟩

end Go.Proofs.YtjcgfbmkgfhnaaaDoor
