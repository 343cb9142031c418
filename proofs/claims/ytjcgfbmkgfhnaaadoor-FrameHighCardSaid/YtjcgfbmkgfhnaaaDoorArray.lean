/- Array: a reply of replies. -/
import Derived.Test.YtjcgfbmkgfhnaaaDoorAll
import Derived.Test.YtjcgfbmkgfhnaaaDoorRight
namespace Go.Proofs.YtjcgfbmkgfhnaaaDoor
open Go.RowKit Go.Shelf
attribute [local go_sem] Oper.semAt_some

/-- An array of these. -/
def ArrayPost (w : World) (t : Fo) (e : Ending) (w' : World) : Prop :=
  ∃ a cap t', e = .returned (.agg #[.int .i64 6, .int .i64 0, .string ⟨#[]⟩, .slice a t.len cap]) ∧ t'.bare = t.bare ∧ IsFo (w.heap.size ≤ ·) w' a t' ∧ Below w.heap.size w w'

/-- A reply stored into its box. -/
theorem four_set {W : World} {b : Nat} {c0 c1 c2 c3 : Value} (v0 v1 v2 v3 : Value) (h : W.heap[b]? = some (Obj.cells #[c0, c1, c2, c3] 24 (0, 0))) :
    ((((W.setCell ⟨b, 0, none⟩ v0).setCell ⟨b, 1, none⟩ v1).setCell ⟨b, 2, none⟩ v2).setCell ⟨b, 3, none⟩ v3).heap[b]? = some (Obj.cells #[v0, v1, v2, v3] 24 (0, 0)) ∧
    (∀ k, k ≠ b → ((((W.setCell ⟨b, 0, none⟩ v0).setCell ⟨b, 1, none⟩ v1).setCell ⟨b, 2, none⟩ v2).setCell ⟨b, 3, none⟩ v3).heap[k]? = W.heap[k]?) ∧
    (∀ n, n ≤ b → Below n W ((((W.setCell ⟨b, 0, none⟩ v0).setCell ⟨b, 1, none⟩ v1).setCell ⟨b, 2, none⟩ v2).setCell ⟨b, 3, none⟩ v3)) :=
  ⟨set_in 3 v3 (set_in 2 v2 (set_in 1 v1 (set_in 0 v0 h))),
   fun k hk => by rw [Below.heap_setCell _ _ _ _ hk, Below.heap_setCell _ _ _ _ hk, Below.heap_setCell _ _ _ _ hk, Below.heap_setCell _ _ _ _ hk],
   fun n hn => ((((Below.refl n W).setCell (p := ⟨b, 0, none⟩) hn v0).setCell (p := ⟨b, 1, none⟩) hn v1).setCell (p := ⟨b, 2, none⟩) hn v2).setCell (p := ⟨b, 3, none⟩) hn v3⟩

theorem flat_high : ∀ (t : Fo) (h : Int), ∀ x ∈ t.flat h, h ≤ x.high ∧ x.high ≤ h + t.depth
  | .nil, _, _, hx => by simp [Fo.flat] at hx
  | .cons k n s a cap sub rest, h, x, hx => by
    rw [Fo.flat_cons] at hx
    simp only [Fo.depth]
    rcases List.mem_cons.1 hx with rfl | hx
    · simp; omega
    · rcases List.mem_append.1 hx with hx | hx
      · have := flat_high sub (h + 1) x hx; omega
      · have := flat_high rest h x hx; omega

set_option maxRecDepth 100000 in
set_option maxHeartbeats 2000000 in
theorem array_any (a : Option Addr) (cap : Nat) (t : Fo) (w : World) (hf : IsFo anyB w a t) (hdep : t.depth ≤ 1000) :
    Calls Tryd.prog 19 #[.slice a t.len cap] w (ArrayPost w t) := by
  refine (callsIn_wide (n := 6)).1 (callsIn_of_wp_marks Tryd.func19 rfl trivial ?_ rfl)
  refine wpIn_wide.2 ?_
  simp only [Tryd.ntmps19, List.size_toArray, List.length_cons, List.length_nil, Nat.reduceAdd, Nat.reduceSub, Array.replicate_succ, Array.replicate_zero, List.push_toArray, List.append_toArray, List.nil_append, List.cons_append]
  go_wp2_with (go_at_call 21; refine (all_any _ _ _ _).mono ?_; rintro e w' ⟨rfl, rfl⟩)
  have hB0 : Below w.heap.size w ((w.alloc (Obj.cells #[Value.int IntKind.i64 0, Value.int IntKind.i64 0, Value.string { data := #[] }, Value.slice none 0 0] 24)).alloc (Obj.cells #[Value.slice a t.len cap] 22)) :=
    ((Below.refl _ _).alloc (Nat.le_refl _) _).alloc (by simp) _
  have hR : ((w.alloc (Obj.cells #[Value.int IntKind.i64 0, Value.int IntKind.i64 0, Value.string { data := #[] }, Value.slice none 0 0] 24)).alloc (Obj.cells #[Value.slice a t.len cap] 22)).heap[w.heap.size]? = some (Obj.cells #[Value.int IntKind.i64 0, Value.int IntKind.i64 0, Value.string { data := #[] }, Value.slice none 0 0] 24 (0, 0)) :=
    (Below.heap_alloc _ _ _ (by simp)).trans (heap_at rfl)
  have hT := hf.same (Same24.of_below hB0)
  refine (wpIn_wide (n := 6)).1 (wpIn_rangeFunc_ownH (F := Fence.wide) rfl (by decide) (gf := 27) (lb := #[.pointer (some ⟨w.heap.size + 1, 0, none⟩)]) rfl trivial (enters_of Tryd.func27 (by kernel_rfl) rfl)
    (all_stops Fence.wide rfl 5 trivial trivial rfl (w.heap.size + 1) a cap t _ (by simp) (Boxed.cell (t := 22) (heap_at (by simp))) hT (by omega))
    (fun h k => Same24.trans h k) Same24.bookkeeping (Below.refl _ _) (fun _ => rfl)
    (fun pre W => (W.heap[w.heap.size]? = some (Obj.cells #[Value.int IntKind.i64 0, Value.int IntKind.i64 0, Value.string { data := #[] }, Value.slice none 0 0] 24 (0, 0)) ∧ True) ∧ Below w.heap.size w W)
    (fun c pre _ => c = .ret ∧ ∃ x ∈ pre, 65536 < El.high x)
    (OwnFrom.and (Own.from (cells_own _ _ (fun _ => #[Value.int IntKind.i64 0, Value.int IntKind.i64 0, Value.string { data := #[] }, Value.slice none 0 0]) (fun _ => True)) _) (ownFrom_below (Nat.le_refl _) (by simp; omega)))
    (fun c => ownFrom_pure _ _)
    ⟨⟨hR, trivial⟩, hB0⟩
    (fun x a' _ => a' = { tmps := #[Value.slice a t.len cap, undef, Value.pointer (some { block := w.heap.size, off := 0 }), .int .i64 x.high,
          Value.slice a t.len cap,
          Value.func (Fn.func 27) #[] #[Value.pointer (some { block := w.heap.size + 1, off := 0 })], .int .i64 x.high, x.val,
          undef, undef, undef, undef, undef, undef], defers := [] })
    (fun x a' => fun _ _ _ _ h _ _ => h) ?assign ?body ?done ?stop)
  case assign =>
    rintro l pre x W K hI hK
    clear hB0 hR hT hf
    simp only [El.encs]
    gi_wp2
    exact hK _ _ (KeepsFrom.refl _ _) (Same24.refl _) hI rfl
  case body =>
    rintro l pre x a' W _ _ ⟨⟨hb, _⟩, hB⟩ rfl _
    clear hB0 hR hT hf
    have e0 : W.cell? ⟨w.heap.size, 0, none⟩ = some (.int .i64 0) := by rw [cell_in 0 hb]; rfl
    have e1 : W.cell? ⟨w.heap.size, 1, none⟩ = some (.int .i64 0) := by rw [cell_in 1 hb]; rfl
    have e2 : W.cell? ⟨w.heap.size, 2, none⟩ = some (.string ⟨#[]⟩) := by rw [cell_in 2 hb]; rfl
    have e3 : W.cell? ⟨w.heap.size, 3, none⟩ = some (.slice none 0 0) := by rw [cell_in 3 hb]; rfl
    have f0 := free_in 0 hb
    have f1 := free_in 1 hb
    have f2 := free_in 2 hb
    have f3 := free_in 3 hb
    have HB := Lib.hid hb
    clear hb
    gi_wp2
    · exact ⟨((((KeepsOthers.setCell _ _ _).from _).trans ((KeepsOthers.setCell _ _ _).from _)).trans ((KeepsOthers.setCell _ _ _).from _)).trans ((KeepsOthers.setCell _ _ _).from _), rfl, x, by simp, by assumption⟩
    · exact ⟨KeepsFrom.refl _ _, Same24.refl _, ⟨HB.out, trivial⟩, hB⟩
  case done =>
    rintro D ys W hD rfl ⟨⟨hb, _⟩, hB⟩ hK
    have HS := Lib.hid (copies_any t a cap W (hf.same (Same24.of_below hB)))
    clear hB0 hR hT
    go_wp2_with fail
    refine HS.out.mono ?_
    rintro e W2 ⟨a2, cap2, t2, rfl, hb2, hs2, hbw2⟩
    have hx2 := (hbw2.block _ (Array.getElem?_eq_some_iff.1 hb).1).trans hb
    have hK2 := (hbw2.block _ (Array.getElem?_eq_some_iff.1 hK).1).trans hK
    have e0 : W2.cell? ⟨w.heap.size, 0, none⟩ = some (.int .i64 0) := by rw [cell_in 0 hx2]; rfl
    have e1 : W2.cell? ⟨w.heap.size, 1, none⟩ = some (.int .i64 0) := by rw [cell_in 1 hx2]; rfl
    have e2 : W2.cell? ⟨w.heap.size, 2, none⟩ = some (.string ⟨#[]⟩) := by rw [cell_in 2 hx2]; rfl
    have e3 : W2.cell? ⟨w.heap.size, 3, none⟩ = some (.slice none 0 0) := by rw [cell_in 3 hx2]; rfl
    have f0 := free_in 0 hx2
    have f1 := free_in 1 hx2
    have f2 := free_in 2 hx2
    have f3 := free_in 3 hx2
    have hDw : D < W.heap.size := (Array.getElem?_eq_some_iff.1 hK).1
    have hbw : w.heap.size < W.heap.size := (Array.getElem?_eq_some_iff.1 hb).1
    have HX := Lib.hid hx2
    have HK := Lib.hid hK2
    have HB := Lib.hid hB
    have HW := Lib.hid hbw2
    have HP := Lib.hid hs2
    clear hK hK2 hb hB hx2 hbw2 hf HS hs2
    go_wp2
    obtain ⟨g1, g2, g3⟩ := four_set (.int .i64 6) (.int .i64 0) (.string ⟨#[]⟩) (.slice a2 t.len cap2) HX.out
    have hDb : D ≠ w.heap.size := by have := hD; simp at this; omega
    have hK3 := (g2 D hDb).trans HK.out
    have hB3 := (HB.out.trans (HW.out.mono HB.out.size)).trans (g3 w.heap.size (Nat.le_refl _))
    have hDW : D < W2.heap.size := (Array.getElem?_eq_some_iff.1 HK.out).1
    generalize ((((W2.setCell { block := w.heap.size, off := 0 } (Value.int IntKind.i64 6)).setCell { block := w.heap.size, off := 1 } (Value.int IntKind.i64 0)).setCell
          { block := w.heap.size, off := 2 } (Value.string { data := #[] })).setCell { block := w.heap.size, off := 3 } (Value.slice a2 t.len cap2)) = W3 at *
    refine ⟨by simp, .inl ⟨_, _, rfl, run_takeDeferred hK3, ?_⟩⟩
    have hx4 := (World.putObj_heap_other (w := W3) (r := D) (o := .deferred none) (fun e => hDb e.symm)).trans g1
    have b0 := cell_in 0 hx4
    have b1 := cell_in 1 hx4
    have b2 := cell_in 2 hx4
    have b3 := cell_in 3 hx4
    refine ⟨.agg #[.int .i64 6, .int .i64 0, .string ⟨#[]⟩, .slice a2 t.len cap2], ?_, a2, cap2, t2, rfl, hb2, ?_, ?_⟩
    · simp [results, Tryd.f19, go_sem, b0, b1, b2, b3]
    · refine (HP.out.keep (B := W3.putObj D (.deferred none)) fun k hok _ => ?_).weaken fun k _ hok => by omega
      rw [World.putObj_heap_other (by omega), g2 k (by omega)]
    · exact hB3.trans (belowK_b (w := w) (Nat.le_refl _) W3 D _ _ (by simp at hD; omega) hK3 rfl rfl)
  case stop =>
    rintro D c pre W hD hpre ⟨rfl, x, hx, hhi⟩ hK
    have := flat_high t 0 x (hpre.subset hx)
    omega

end Go.Proofs.YtjcgfbmkgfhnaaaDoor
