/- Right: whether a reply is right. -/
import Derived.Test.YtjcgfbmkgfhnaaaDoorAll
import Derived.Test.YtjcgfbmkgfhnaaaDoorFits
namespace Go.Proofs.YtjcgfbmkgfhnaaaDoor
open Go.RowKit Go.Shelf
attribute [local go_sem] Oper.semAt_some

/-- Whether all of these may be right. -/
def rightL (l : List El) : Bool := l.all fun x => fitsS (headS x) x.high
def rightS (t : Fo) : Bool := rightL (t.flat 0)

theorem KeepsFrom.of_below {B : Nat} {W W' : World} (h : Below W.heap.size W W') : KeepsFrom B W W' :=
  ⟨h.size, fun k _ _ hk _ => (h.block k (Array.getElem?_eq_some_iff.1 hk).1).trans hk⟩

theorem boxed_later {W W' : World} {B : Nat} {t : TypeId} {v : Value} (h : Boxed W B t v) (hb : Below W.heap.size W W') : Boxed W' B t v := (hb.block B h.lt).trans h
theorem Same24.set {W : World} {B : Nat} {t : TypeId} {v : Value} (h : Boxed W B t v) (ht : t ≠ 24) (u : Value) : Same24 W (W.setCell ⟨B, 0, none⟩ u) := fun k c hk => by
  refine (Below.heap_setCell W ⟨B, 0, none⟩ u k (fun e => ?_)).trans hk
  subst e
  have := (show W.heap[k]? = _ from h).symm.trans hk
  simp at this
  exact ht this.2

/-- A block of cells abides the turn of what is no cells. -/
theorem cells_own {β : Type} (b T : Nat) (c : β → Array Value) (p : β → Prop) : Own (fun s (W : World) => W.heap[b]? = some (Obj.cells (c s) T (0, 0)) ∧ p s) := fun s X Y row hs hg hrow =>
  ⟨(hg.block b (Array.getElem?_eq_some_iff.1 hs.1).1 (fun e' => by obtain ⟨o, ho, hc⟩ := hrow b e'.symm; rw [hs.1] at ho; cases ho; cases hc)).trans hs.1, hs.2⟩

/-- The box of the reply that a round is about. -/
def PartAt (x : El) (b : Nat) (W : World) : Prop := W.heap[b]? = some (Obj.cells #[.int .i64 x.k, .int .i64 x.n, .string x.s.1, .slice x.a x.len x.cap] 24 (0, 0))
theorem PartAt.own (x : El) (f : Nat → Act) (a' : Act) (B : Nat) : OwnFrom B (fun (_ : Unit) W => ∃ b, PartAt x b W ∧ a' = f b) := fun _ X Y row hs hg hrow => by
  obtain ⟨b, h, e⟩ := hs
  exact ⟨b, (hg.block b (Array.getElem?_eq_some_iff.1 h).1 (fun e' => by obtain ⟨_, o, ho, hc⟩ := hrow b e'.symm; rw [show X.heap[b]? = _ from h] at ho; cases ho; cases hc)).trans h, e⟩

theorem rightL_snoc (l : List El) (x : El) : rightL (l ++ [x]) = (rightL l && fitsS (headS x) x.high) := by simp [rightL]

theorem rightL_prefix {p l : List El} (h : p <+: l) (hp : rightL p = false) : rightL l = false := by
  obtain ⟨r, rfl⟩ := h
  simp only [rightL, List.all_append] at *
  rw [hp]; rfl

set_option maxRecDepth 100000 in
set_option maxHeartbeats 2000000 in
theorem right_any (k n : Int) (s : Txt) (a : Option Addr) (cap : Nat) (sub : Fo) (w : World) (hf : IsFo anyB w a sub) (hdep : sub.depth ≤ 1000) :
    Calls Tryd.prog 20 #[.agg #[.int .i64 k, .int .i64 n, .string s.1, .slice a sub.len cap]] w fun e w' => e = .returned (.bool (rightS (.cons k n s a cap sub .nil))) ∧ Below w.heap.size w w' := by
  refine (callsIn_wide (n := 6)).1 (callsIn_of_wp_marks Tryd.func20 rfl trivial ?_ rfl)
  refine wpIn_wide.2 ?_
  simp only [Tryd.ntmps20, List.size_toArray, List.length_cons, List.length_nil, Nat.reduceAdd, Nat.reduceSub, Array.replicate_succ, Array.replicate_zero, List.push_toArray, List.append_toArray, List.nil_append, List.cons_append]
  go_wp2
  go_step3
  go_wp2
  go_step3
  go_wp2_with (go_at_call 21; refine (all_any _ _ _ _).mono ?_; rintro e w' ⟨rfl, rfl⟩)
  have hB0 : Below w.heap.size w ((((w.alloc (Obj.cells #[Value.int IntKind.i64 k, Value.int IntKind.i64 n, Value.string s.val, Value.slice a sub.len cap] 24)).alloc (Obj.cells #[Value.bool true] 4)).alloc
      (Obj.cells #[Value.int IntKind.i64 k, Value.int IntKind.i64 n, Value.string s.val, Value.slice a sub.len cap] 24)).alloc (Obj.cells #[Value.slice (some { block := w.heap.size + 1 + 1, off := 0 }) 1 1] 22)) :=
    ((((Below.refl _ _).alloc (Nat.le_refl _) _).alloc (by simp) _).alloc (by simp; omega) _).alloc (by simp; omega) _
  have hX : Boxed (((w.alloc (Obj.cells #[Value.int IntKind.i64 k, Value.int IntKind.i64 n, Value.string s.val, Value.slice a sub.len cap] 24)).alloc (Obj.cells #[Value.bool true] 4))) (w.heap.size + 1) 4 (.bool true) := by
    have := Boxed.new (w.alloc (Obj.cells #[Value.int IntKind.i64 k, Value.int IntKind.i64 n, Value.string s.val, Value.slice a sub.len cap] 24)) 4 (.bool true)
    simpa using this
  have hRow : (((w.alloc (Obj.cells #[Value.int IntKind.i64 k, Value.int IntKind.i64 n, Value.string s.val, Value.slice a sub.len cap] 24)).alloc (Obj.cells #[Value.bool true] 4)).alloc
      (Obj.cells #[Value.int IntKind.i64 k, Value.int IntKind.i64 n, Value.string s.val, Value.slice a sub.len cap] 24)).heap[w.heap.size + 1 + 1]? = some (Obj.cells #[Value.int IntKind.i64 k, Value.int IntKind.i64 n, Value.string s.val, Value.slice a sub.len cap] 24 (0, 0)) := heap_at (by simp)
  have hX2 := (hX.alloc (Obj.cells #[Value.int IntKind.i64 k, Value.int IntKind.i64 n, Value.string s.val, Value.slice a sub.len cap] 24)).alloc (Obj.cells #[Value.slice (some { block := w.heap.size + 1 + 1, off := 0 }) 1 1] 22)
  have hT : IsFo anyB ((((w.alloc (Obj.cells #[Value.int IntKind.i64 k, Value.int IntKind.i64 n, Value.string s.val, Value.slice a sub.len cap] 24)).alloc (Obj.cells #[Value.bool true] 4)).alloc
      (Obj.cells #[Value.int IntKind.i64 k, Value.int IntKind.i64 n, Value.string s.val, Value.slice a sub.len cap] 24)).alloc (Obj.cells #[Value.slice (some { block := w.heap.size + 1 + 1, off := 0 }) 1 1] 22))
      (some ⟨w.heap.size + 1 + 1, 0, none⟩) (.cons k n s a cap sub .nil) := by
    refine ⟨by simp [Fo.len], w.heap.size + 1 + 1, 0, fun _ => ⟨rfl, trivial⟩, ⟨_, (Same24.refl _).alloc _ |>.at hRow, rfl, rfl, rfl, rfl⟩, ?_, trivial⟩
    obtain ⟨hl, g, o, ha, hc⟩ := hf.same (Same24.of_below hB0)
    exact ⟨hl, g, o, ha, hc⟩
  refine (wpIn_wide (n := 6)).1 (wpIn_rangeFunc_ownH (F := Fence.wide) rfl (by decide) (gf := 27) (lb := #[.pointer (some ⟨w.heap.size + 1 + 1 + 1, 0, none⟩)]) rfl trivial (enters_of Tryd.func27 (by kernel_rfl) rfl)
    (all_stops Fence.wide rfl 5 trivial trivial rfl (w.heap.size + 1 + 1 + 1) (some ⟨w.heap.size + 1 + 1, 0, none⟩) 1 (.cons k n s a cap sub .nil) _ (by simp) (Boxed.cell (t := 22) (heap_at (by simp))) hT (by simp [Fo.depth]; omega))
    (fun h k => Same24.trans h k) Same24.bookkeeping (Below.refl _ _) (fun _ => rfl)
    (fun pre W => (Boxed W (w.heap.size + 1) 4 (.bool true) ∧ rightL pre = true) ∧ Below w.heap.size w W)
    (fun c pre W => (Boxed W (w.heap.size + 1) 4 (.bool false) ∧ rightL pre = false ∧ c = .exit 0) ∧ Below w.heap.size w W)
    (OwnFrom.and (Own.from (cells_own _ _ (fun _ => #[.bool true]) (fun pre => rightL pre = true)) _) (ownFrom_below (Nat.le_refl _) (by simp; omega)))
    (fun c => OwnFrom.and (Own.from (cells_own _ _ (fun _ => #[.bool false]) (fun pre => rightL pre = false ∧ c = .exit 0)) _) (ownFrom_below (Nat.le_refl _) (by simp; omega)))
    ⟨⟨hX2, rfl⟩, hB0⟩
    (fun x a' W => ∃ b, PartAt x b W ∧ a' = { tmps := #[Value.agg #[Value.int IntKind.i64 k, Value.int IntKind.i64 n, Value.string s.val, Value.slice a sub.len cap],
          Value.pointer (some { block := w.heap.size, off := 0 }), Value.bool false,
          Value.pointer (some { block := w.heap.size + 1, off := 0 }), .int .i64 x.high, .pointer (some ⟨b, 0, none⟩),
          Value.agg #[Value.int IntKind.i64 k, Value.int IntKind.i64 n, Value.string s.val, Value.slice a sub.len cap],
          Value.slice (some { block := w.heap.size + 1 + 1, off := 0 }) 1 1,
          Value.func (Fn.func 27) #[] #[Value.pointer (some { block := w.heap.size + 1 + 1 + 1, off := 0 })], .int .i64 x.high,
          x.val, undef, undef, undef, undef, undef, undef, undef], defers := [] })
    (fun x a' => PartAt.own x _ a' _) ?assign ?body ?done ?stop)
  case assign =>
    rintro l pre x W K ⟨⟨hb, hr⟩, hB⟩ hK
    clear hB0 hX hRow hX2 hT hf
    simp only [El.encs]
    gi_wp2
    exact hK _ _ (KeepsFrom.of_below ((Below.refl _ _).alloc (Nat.le_refl _) _)) ((Same24.refl _).alloc _) ⟨⟨Boxed.alloc hb _, hr⟩, hB.alloc hB.size _⟩ ⟨W.heap.size, heap_at rfl, rfl⟩
  case body =>
    rintro l pre x a' W _ _ ⟨⟨hb, hr⟩, hB⟩ ⟨b, hp, rfl⟩ _
    clear hB0 hX hRow hX2 hT hf
    have p0 : W.cell? ⟨b, 0, none⟩ = some (.int .i64 x.k) := by rw [cell_in 0 hp]; rfl
    have p1 : W.cell? ⟨b, 1, none⟩ = some (.int .i64 x.n) := by rw [cell_in 1 hp]; rfl
    have p2 : W.cell? ⟨b, 2, none⟩ = some (.string x.s.1) := by rw [cell_in 2 hp]; rfl
    have p3 : W.cell? ⟨b, 3, none⟩ = some (.slice x.a x.len x.cap) := by rw [cell_in 3 hp]; rfl
    have HH := Lib.hid (headOf_any x W)
    have HF := fun W => Lib.hid (fits_any (headS x) x.high W (headS_small x))
    have HR := Lib.hid (rightL_snoc pre x)
    rw [hr] at HR
    have HP := Lib.hid hr
    clear hr
    cases hfit : fitsS (headS x) x.high
    all_goals rw [hfit] at HR
    all_goals rw [hfit] at HF
    all_goals clear hfit
    all_goals
      gi_wp2_with (first
        | ((try refine ⟨trivial, ?_⟩); gi_at_call 22; refine (CallsIn.inRound l (callsIn_wide.2 HH.out)).mono ?_; rintro e W1 ⟨rfl, hb1⟩; have hbx1 := boxed_later hb hb1; have hc1 := hbx1.cell)
        | ((try refine ⟨trivial, ?_⟩); gi_at_call 26; refine (CallsIn.inRound l (callsIn_wide.2 (HF _).out)).mono ?_; rintro e W2 ⟨rfl, hb2⟩; have hbx2 := boxed_later hbx1 hb2; have hc2 := hbx2.cell; have hf2 := hbx2.frozen))
      have hB2 : Below w.heap.size w W2 := hB.trans ((hb1.trans (hb2.mono hb1.size)).mono hB.size)
      have hs2 : Same24 W W2 := Same24.of_below (hb1.trans (hb2.mono hb1.size))
      have hk2 : ∀ B, KeepsFrom B W W2 := fun B => KeepsFrom.of_below (hb1.trans (hb2.mono hb1.size))
    · exact ⟨(hk2 _).trans ((KeepsOthers.setCell _ _ _).from _), ⟨⟨Boxed.set _ hbx2, by rw [HR.out]; rfl, rfl⟩, hB2.setCell (p := ⟨w.heap.size + 1, 0, none⟩) (by simp) _⟩⟩
    · exact ⟨(hk2 _).trans ((KeepsOthers.setCell _ _ _).from _), hs2.trans (Same24.set hbx2 (by decide) _), ⟨⟨Boxed.set _ hbx2, by rw [HR.out]; rfl⟩, hB2.setCell (p := ⟨w.heap.size + 1, 0, none⟩) (by simp) _⟩⟩
  case done =>
    rintro D ys W hD rfl ⟨⟨hb, hr⟩, hB⟩ hK
    have hc := hb.cell
    clear hB0 hX hRow hX2 hT hf
    go_wp2
    rw [Exit.noGoto_ret]
    refine ⟨by simp, .inl ⟨_, _, rfl, run_takeDeferred hK, ?_⟩⟩
    exact ⟨_, results_tmp rfl _ _ _, by rw [show rightS (.cons k n s a cap sub .nil) = true from hr]; rfl, hB.trans (belowK_b (w := w) (Nat.le_refl _) W D _ _ (by simp at hD; omega) hK rfl rfl)⟩
  case stop =>
    rintro D c pre W hD hpre ⟨⟨hb, hr, rfl⟩, hB⟩ hK
    have hc := hb.cell
    clear hB0 hX hRow hX2 hT hf
    refine wpIn_wide.2 ?_
    go_wp2
    rw [Exit.noGoto_ret]
    refine ⟨by simp, .inl ⟨_, _, rfl, run_takeDeferred hK, ?_⟩⟩
    exact ⟨_, results_tmp rfl _ _ _, by rw [show rightS (.cons k n s a cap sub .nil) = false from rightL_prefix hpre hr]; rfl, hB.trans (belowK_b (w := w) (Nat.le_refl _) W D _ _ (by simp at hD; omega) hK rfl rfl)⟩

end Go.Proofs.YtjcgfbmkgfhnaaaDoor
