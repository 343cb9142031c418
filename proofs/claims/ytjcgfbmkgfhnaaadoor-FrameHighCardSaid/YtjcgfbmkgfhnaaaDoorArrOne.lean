/- An array of one reply, out of a reader. -/
import Derived.Test.YtjcgfbmkgfhnaaaDoorArrNil
import Derived.Test.YtjcgfbmkgfhnaaaDoorSched
namespace Go.Proofs.YtjcgfbmkgfhnaaaDoor
open Go.RowKit Go.Shelf
set_option linter.unusedSimpArgs false
set_option linter.unusedVariables false
attribute [local go_sem] Oper.semAt_some

/-- Behind the append of one reply to the array's box. -/
def ArrEnd (w7 : World) (g p n cap : Nat) (W' : World) : Prop :=
  (∀ k, k ≠ g → k ≠ p → W'.heap[k]? = w7.heap[k]?) ∧ KeepsOthers w7 W' ∧ Below n w7 W' ∧ W'.heap[p]? = some (Obj.cells #[Value.int IntKind.i64 6, Value.int IntKind.i64 0, Value.string { data := #[] }, Value.slice (some ⟨g, 0, none⟩) 1 cap] 24 (0, 0))
theorem arr_end1 {w7 : World} {g p n cap : Nat} (hg : n ≤ g) (hp : n ≤ p) (hag : p ≠ g) (A7 : w7.heap[p]? = some (Obj.cells #[Value.int IntKind.i64 6, Value.int IntKind.i64 0, Value.string { data := #[] }, Value.slice none 0 0] 24 (0, 0))) (v0 v1 v2 v3 : Value) :
    ArrEnd w7 g p n cap (((((w7.setCell ⟨g, 0, none⟩ v0).setCell ⟨g, 1, none⟩ v1).setCell ⟨g, 2, none⟩ v2).setCell ⟨g, 3, none⟩ v3).setCell ⟨p, 3, none⟩ (.slice (some ⟨g, 0, none⟩) 1 cap)) := by
  refine ⟨fun k h h' => by rw [Below.heap_setCell _ _ _ _ h', Below.heap_setCell _ _ _ _ h, Below.heap_setCell _ _ _ _ h, Below.heap_setCell _ _ _ _ h, Below.heap_setCell _ _ _ _ h],
    ((((KeepsOthers.setCell _ _ _).trans (KeepsOthers.setCell _ _ _)).trans (KeepsOthers.setCell _ _ _)).trans (KeepsOthers.setCell _ _ _)).trans (KeepsOthers.setCell _ _ _),
    (((((Below.refl n w7).setCell (p := ⟨g, 0, none⟩) hg _).setCell (p := ⟨g, 1, none⟩) hg _).setCell (p := ⟨g, 2, none⟩) hg _).setCell (p := ⟨g, 3, none⟩) hg _).setCell (p := ⟨p, 3, none⟩) hp _, ?_⟩
  have A8 : ((((w7.setCell ⟨g, 0, none⟩ v0).setCell ⟨g, 1, none⟩ v1).setCell ⟨g, 2, none⟩ v2).setCell ⟨g, 3, none⟩ v3).heap[p]? = some (Obj.cells #[Value.int IntKind.i64 6, Value.int IntKind.i64 0, Value.string { data := #[] }, Value.slice none 0 0] 24 (0, 0)) := by
    rw [Below.heap_setCell _ _ _ _ hag, Below.heap_setCell _ _ _ _ hag, Below.heap_setCell _ _ _ _ hag, Below.heap_setCell _ _ _ _ hag]; exact A7
  exact set_in 3 _ A8
theorem arr_end2 {w7 : World} {g p n cap : Nat} (hg : n ≤ g) (hp : n ≤ p) (hag : p ≠ g) (A7 : w7.heap[p]? = some (Obj.cells #[Value.int IntKind.i64 6, Value.int IntKind.i64 0, Value.string { data := #[] }, Value.slice none 0 0] 24 (0, 0))) (v0 v1 v2 v3 : Value) :
    ArrEnd w7 g p n cap (((((w7.setCell ⟨p, 3, none⟩ (.slice (some ⟨g, 0, none⟩) 1 cap)).setCell ⟨g, 0, none⟩ v0).setCell ⟨g, 1, none⟩ v1).setCell ⟨g, 2, none⟩ v2).setCell ⟨g, 3, none⟩ v3) := by
  refine ⟨fun k h h' => by rw [Below.heap_setCell _ _ _ _ h, Below.heap_setCell _ _ _ _ h, Below.heap_setCell _ _ _ _ h, Below.heap_setCell _ _ _ _ h, Below.heap_setCell _ _ _ _ h'],
    ((((KeepsOthers.setCell _ _ _).trans (KeepsOthers.setCell _ _ _)).trans (KeepsOthers.setCell _ _ _)).trans (KeepsOthers.setCell _ _ _)).trans (KeepsOthers.setCell _ _ _),
    (((((Below.refl n w7).setCell (p := ⟨p, 3, none⟩) hp _).setCell (p := ⟨g, 0, none⟩) hg _).setCell (p := ⟨g, 1, none⟩) hg _).setCell (p := ⟨g, 2, none⟩) hg _).setCell (p := ⟨g, 3, none⟩) hg _, ?_⟩
  rw [Below.heap_setCell _ _ _ _ hag, Below.heap_setCell _ _ _ _ hag, Below.heap_setCell _ _ _ _ hag, Below.heap_setCell _ _ _ _ hag]
  exact set_in 3 _ A7

/-- The reply's box. -/
def BoxR (p : Nat) (x : R4) (W : World) : Prop := W.cell? ⟨p, 0, none⟩ = some (.int .i64 x.k) ∧ W.cell? ⟨p, 1, none⟩ = some (.int .i64 x.n) ∧ W.cell? ⟨p, 2, none⟩ = some (.string x.s) ∧ W.cell? ⟨p, 3, none⟩ = some (.slice x.a x.len x.cap)
theorem BoxR.of {p : Nat} {x : R4} {W : World} (h : W.heap[p]? = some (Obj.cells #[.int .i64 x.k, .int .i64 x.n, .string x.s, .slice x.a x.len x.cap] 24 (0, 0))) : BoxR p x W :=
  ⟨(cell_in 0 h).trans rfl, (cell_in 1 h).trans rfl, (cell_in 2 h).trans rfl, (cell_in 3 h).trans rfl⟩
theorem op_do {P : Program} {md : Region.Mode} {ops : Array Oper} {Q : Exit → Act → World → Prop} {S : World → Prop} {fuel : Nat} {l : Array Bool} {i : Nat} {o : Oper} {a : Act} {w : World} (ho : ops[i]? = some o) (hw : Region.wanted o (yielded ops a.tmps) = true)
    (h : ∀ K' : Act → World → Prop, (∀ a' w', S w' → wpAnyH P md ops Q S fuel l a' w' → K' a' w') → o.wp P a w K' Q) : wpOp P ops Q i (fun a' w' => S w' ∧ wpAnyH P md ops Q S fuel l a' w') a w := by
  unfold wpOp
  simp only [ho]
  rw [if_pos hw]
  exact .inl (h _ fun _ _ h1 h2 => ⟨h1, h2⟩)
theorem wp_append_at {P : Program} {o : Oper} {a : Act} {w w' : World} {K : Act → World → Prop} {Q : Exit → Act → World → Prop} {v xv v' : Value} (s x : Operand) (t u : TypeId)
    (ho : o.op = Op.call { callee := Callee.builtin Builtin.append, args := #[s, x], argTypes := #[t, u] }) (hs : a.eval s = v) (hx : a.eval x = xv) (hrun : (Builtin.append_ #[t, u] o.type #[v, xv]).run P w = .ok v' w')
    (h : K (a.put o.dst v') w') : o.wp P a w K Q := by
  unfold Oper.wp
  simp [execOp, ho, resolve, invoke, builtin, hs, hx, hrun, Result.andThen]
  exact h

set_option maxRecDepth 100000 in
set_option maxHeartbeats 4000000 in
theorem array_one (b : Nat) (t q : ByteArray) (h : Int) (hh : 0 ≤ h) (hh2 : h ≤ 1000) (w : World) (hR : Reader w b t h)
    (HC : ∀ W, w.grownBy W (some b) → Reader W b t (h + 1) → Calls Tryd.prog 23 #[.pointer (some ⟨b, 0, none⟩)] W (RepOk b q (h + 1) W)) :
    Calls Tryd.prog 31 #[.pointer (some ⟨b, 0, none⟩), .int .i64 1] w (RepOk b q h w) := by
  have HA := fun w => Lib.hid (array_nil w)
  refine (callsIn_wide (n := 6)).1 (callsIn_of_wp_marks Tryd.func31 rfl trivial ?_ rfl)
  refine wpIn_wide.2 ?_
  simp only [Tryd.ntmps31, List.size_toArray, List.length_cons, List.length_nil, Nat.reduceAdd, Nat.reduceSub, Array.replicate_succ, Array.replicate_zero, List.push_toArray, List.append_toArray, List.nil_append, List.cons_append]
  go_wp2_with fail
  refine (HA _).out.mono ?_
  clear HA
  rintro e w1 ⟨rfl, hb1⟩
  have hR0 : ((w.alloc (Obj.cells #[Value.int IntKind.i64 0, Value.int IntKind.i64 0, Value.string { data := #[] }, Value.slice none 0 0] 24)).alloc (Obj.cells #[Value.nilIface] 60)).heap[w.heap.size]? = some (Obj.cells #[Value.int IntKind.i64 0, Value.int IntKind.i64 0, Value.string { data := #[] }, Value.slice none 0 0] 24 (0, 0)) := (Below.heap_alloc _ _ _ (by simp)).trans (heap_at rfl)
  have hE0 : Boxed ((w.alloc (Obj.cells #[Value.int IntKind.i64 0, Value.int IntKind.i64 0, Value.string { data := #[] }, Value.slice none 0 0] 24)).alloc (Obj.cells #[Value.nilIface] 60)) (w.heap.size + 1) 60 .nilIface := heap_at (by simp)
  have hR1 := (hb1.block _ (by simp; omega)).trans hR0
  have hE1 := boxed_later hE0 hb1
  have hB1 : Below w.heap.size w w1 := (((Below.refl _ _).alloc (Nat.le_refl _) _).alloc (by simp) _).trans (hb1.mono (by simp; omega))
  have hwz : w.heap.size + 1 < w1.heap.size := hE1.lt
  clear hb1 hR0 hE0
  go_wp2_with (go_at_call 38; refine (replies_any b 1 _).mono ?_; rintro e w' ⟨rfl, rfl⟩)
  have hsz : (((w1.alloc (Obj.cells #[Value.int IntKind.i64 6, Value.int IntKind.i64 0, Value.string { data := #[] }, Value.slice none 0 0] 24)).alloc (Obj.cells #[Value.pointer (some { block := b, off := 0 })] 74)).alloc (Obj.cells #[Value.int IntKind.i64 1] 3)).heap.size = w1.heap.size + 3 := by simp
  have hBB : Below w1.heap.size w1 (((w1.alloc (Obj.cells #[Value.int IntKind.i64 6, Value.int IntKind.i64 0, Value.string { data := #[] }, Value.slice none 0 0] 24)).alloc (Obj.cells #[Value.pointer (some { block := b, off := 0 })] 74)).alloc (Obj.cells #[Value.int IntKind.i64 1] 3)) := (((Below.refl _ _).alloc (Nat.le_refl _) _).alloc (by simp) _).alloc (by simp; omega) _
  have hx1 : Boxed (((w1.alloc (Obj.cells #[Value.int IntKind.i64 6, Value.int IntKind.i64 0, Value.string { data := #[] }, Value.slice none 0 0] 24)).alloc (Obj.cells #[Value.pointer (some { block := b, off := 0 })] 74)).alloc (Obj.cells #[Value.int IntKind.i64 1] 3)) (w1.heap.size + 1) 74 (.pointer (some ⟨b, 0, none⟩)) := (Below.heap_alloc _ _ _ (by simp)).trans (heap_at (by simp))
  have hx2 : Boxed (((w1.alloc (Obj.cells #[Value.int IntKind.i64 6, Value.int IntKind.i64 0, Value.string { data := #[] }, Value.slice none 0 0] 24)).alloc (Obj.cells #[Value.pointer (some { block := b, off := 0 })] 74)).alloc (Obj.cells #[Value.int IntKind.i64 1] 3)) (w1.heap.size + 2) 3 (.int .i64 1) := heap_at (by simp)
  have hAA : (((w1.alloc (Obj.cells #[Value.int IntKind.i64 6, Value.int IntKind.i64 0, Value.string { data := #[] }, Value.slice none 0 0] 24)).alloc (Obj.cells #[Value.pointer (some { block := b, off := 0 })] 74)).alloc (Obj.cells #[Value.int IntKind.i64 1] 3)).heap[w1.heap.size]? = some (Obj.cells #[Value.int IntKind.i64 6, Value.int IntKind.i64 0, Value.string { data := #[] }, Value.slice none 0 0] 24 (0, 0)) := (Below.heap_alloc _ _ _ (by simp; omega)).trans ((Below.heap_alloc _ _ _ (by simp)).trans (heap_at rfl))
  generalize (((w1.alloc (Obj.cells #[Value.int IntKind.i64 6, Value.int IntKind.i64 0, Value.string { data := #[] }, Value.slice none 0 0] 24)).alloc (Obj.cells #[Value.pointer (some { block := b, off := 0 })] 74)).alloc (Obj.cells #[Value.int IntKind.i64 1] 3)) = w2 at *
  have hb : b < w.heap.size := (Array.getElem?_eq_some_iff.1 hR).1
  have hB2 : Below w.heap.size w w2 := hB1.trans (hBB.mono hB1.size)
  have hRw : Reader w2 b t h := Reader.later hR hB2
  have hZ : w2.heap[w.heap.size]? = some (Obj.cells #[Value.int IntKind.i64 0, Value.int IntKind.i64 0, Value.string { data := #[] }, Value.slice none 0 0] 24 (0, 0)) := (hBB.block _ (by omega)).trans hR1
  have hE2 := boxed_later hE1 hBB
  have hA2 : w2.heap[w1.heap.size]? = some (Obj.cells #[Value.int IntKind.i64 6, Value.int IntKind.i64 0, Value.string { data := #[] }, Value.slice none 0 0] 24 (0, 0)) := hAA
  have hg2 : w.grownBy w2 (some b) := grown_of_below hB2
  have hseq := replies_one b (w1.heap.size + 1) (w1.heap.size + 2) t q h hh hh2 w2 hRw hx1 hx2 (fun W hW hRW => HC W (hg2.trans hW) hRW)
  clear hB1 hBB hx1 hx2 hR1 hE1
  have abz : Abides b (fun (_ : List R4) W => W.heap[w.heap.size]? = some (Obj.cells #[Value.int IntKind.i64 0, Value.int IntKind.i64 0, Value.string { data := #[] }, Value.slice none 0 0] 24 (0, 0)) ∧ True) := fun _ A B hA hg =>
    ⟨(hg.block _ (Array.getElem?_eq_some_iff.1 hA.1).1 (by simp; omega)).trans hA.1, trivial⟩
  have abe : ∀ v : Value, Abides b (fun (_ : List R4) W => Boxed W (w.heap.size + 1) 60 v) := fun v _ A B hA hg => hA.kept hg (by simp; omega)
  have abg : Abides b (fun (_ : List R4) W => w.grownBy W (some b)) := fun _ A B hA hg => hA.trans hg
  have owz : OwnFrom w2.heap.size (fun (_ : List R4) W => W.heap[w.heap.size]? = some (Obj.cells #[Value.int IntKind.i64 0, Value.int IntKind.i64 0, Value.string { data := #[] }, Value.slice none 0 0] 24 (0, 0)) ∧ True) :=
    Own.from (cells_own _ _ (fun _ => #[Value.int IntKind.i64 0, Value.int IntKind.i64 0, Value.string { data := #[] }, Value.slice none 0 0]) (fun _ => True)) _
  have owe : ∀ v : Value, OwnFrom w2.heap.size (fun (_ : List R4) W => Boxed W (w.heap.size + 1) 60 v) := fun v => Own.from (boxed_own _ _ (fun _ => v)) _
  have owg : OwnFrom w2.heap.size (fun (_ : List R4) W => w.grownBy W (some b)) := grown_own (by omega)
  have aba : Abides b (ArrBox w1.heap.size) := fun s A B hA hg => hA.keep fun hlt => hg.block _ hlt (by simp; omega)
  have owa : OwnFrom w2.heap.size (ArrBox w1.heap.size) := fun s X Y row hA hg hr => hA.keep fun hlt => hg.block _ hlt (fun e => by have := (hr _ e.symm).1; omega)
  have hw2 : w.heap.size ≤ w2.heap.size := by omega
  refine (wpIn_wide (n := 6)).1 (range_upto (ok := fun pre : List R4 => pre = []) (gf := 44) (lb := #[.pointer (some ⟨w1.heap.size + 1, 0, none⟩), .pointer (some ⟨w1.heap.size + 2, 0, none⟩)]) (encs := fun x : R4 => #[x.val, .nilIface]) (T := fun _ => True) (Kp := SameR) (S := fun xs => xs ≠ []) (Sp := fun _ => True) (Rb := fun W' => Reader W' b q h) (b := b) rfl (enters_of Tryd.func44 (by kernel_rfl) rfl)
    (fun W l o o' hl ho hr => by obtain ⟨_, hR'⟩ := reader_put b h W l o o' hl ho ⟨q, hr⟩; exact (World.putObj_heap_other (fun e => by subst e; rw [show W.heap[b]? = _ from hr] at hl; cases hl; cases ho)).trans hr) (by omega) hseq SameR.trans SameR.bookkeeping (fun _ => rfl)
    (fun pre W => (((W.heap[w.heap.size]? = some (Obj.cells #[Value.int IntKind.i64 0, Value.int IntKind.i64 0, Value.string { data := #[] }, Value.slice none 0 0] 24 (0, 0)) ∧ True) ∧ Boxed W (w.heap.size + 1) 60 .nilIface) ∧ w.grownBy W (some b)) ∧ ArrBox w1.heap.size pre W)
    (fun _ _ _ => False)
    (((owz.and (owe .nilIface)).and owg).and owa) (fun _ => fun _ _ _ _ h _ _ => h)
    (fun s A B hA hg => ⟨⟨⟨abz s A B hA.1.1.1 hg, abe _ s A B hA.1.1.2 hg⟩, abg s A B hA.1.2 hg⟩, aba s A B hA.2 hg⟩)
    (fun _ s A B hA hg => hA)
    ⟨⟨⟨⟨hZ, trivial⟩, hE2⟩, hg2⟩, ⟨fun _ => hA2, fun e => absurd rfl e⟩⟩
    (fun x a' W => ∃ p, w1.heap.size < p ∧ a' = { tmps := #[Value.pointer (some { block := b, off := 0 }), Value.int IntKind.i64 1, undef, undef,
          Value.pointer (some { block := w.heap.size, off := 0 }), Value.pointer (some { block := w.heap.size + 1, off := 0 }), Value.pointer (some { block := w1.heap.size, off := 0 }),
          Value.pointer (some { block := p, off := 0 }), .nilIface, Value.agg #[Value.int IntKind.i64 6, Value.int IntKind.i64 0, Value.string { data := #[] }, Value.slice none 0 0],
          Value.pointer (some { block := b, off := 0 }), Value.int IntKind.i64 1, Value.func (Fn.func 44) #[] #[Value.pointer (some { block := w1.heap.size + 1, off := 0 }), Value.pointer (some { block := w1.heap.size + 1 + 1, off := 0 })],
          Value.agg #[.int .i64 x.k, .int .i64 x.n, .string x.s, .slice x.a x.len x.cap],
          .nilIface, undef, undef, undef, undef, undef, undef, undef, undef, undef, undef, undef, undef, undef], defers := [] } ∧ W.heap[p]? = some (Obj.cells #[.int .i64 x.k, .int .i64 x.n, .string x.s, .slice x.a x.len x.cap] 24 (0, 0)))
    (fun x a' => fun _ X Y row hA hg hr => by obtain ⟨p, hp, e, hc⟩ := hA; exact ⟨p, hp, e, (hg.block _ (Array.getElem?_eq_some_iff.1 hc).1 (fun e' => by obtain ⟨o, ho, hn⟩ := (hr _ e'.symm).2; rw [hc] at ho; cases ho; cases hn)).trans hc⟩) ?assign ?body ?done ?stop)
  case assign =>
    rintro l pre x W K rfl ⟨⟨⟨⟨hb, _⟩, he⟩, hg⟩, ha⟩ hK
    clear hseq
    unfold R4.val
    gi_wp2
    have hbw := Below.refl W.heap.size W
    have hlt : w1.heap.size < W.heap.size := (Array.getElem?_eq_some_iff.1 (ha.1 rfl)).1
    refine hK _ _ ((KeepsOthers.alloc _ _).from _) (SameR.of_below (hbw.alloc (Nat.le_refl _) _)) ⟨⟨⟨⟨?_, trivial⟩, ?_⟩, ?_⟩, ?_⟩ ⟨_, hlt, rfl, heap_at rfl⟩
    · exact (Below.heap_alloc _ _ _ (Array.getElem?_eq_some_iff.1 hb).1).trans hb
    · exact boxed_later he (hbw.alloc (Nat.le_refl _) _)
    · exact hg.trans (grown_of_below (hbw.alloc (Nat.le_refl _) _))
    · exact ha.keep fun h => Below.heap_alloc _ _ _ h
  case body =>
    rintro l pre x a' W rfl ⟨⟨⟨⟨hb, _⟩, he⟩, hg⟩, ha⟩ ⟨p, hp, rfl, hx⟩
    clear hseq
    have ha0 := ha.1 rfl
    have e3 : W.cell? ⟨w1.heap.size, 3, none⟩ = some (.slice none 0 0) := by rw [cell_in 3 ha0]; rfl
    have f3 := free_in 3 ha0
    have x0 : W.cell? ⟨p, 0, none⟩ = some (.int .i64 x.k) := by rw [cell_in 0 hx]; rfl
    have x1 : W.cell? ⟨p, 1, none⟩ = some (.int .i64 x.n) := by rw [cell_in 1 hx]; rfl
    have x2 : W.cell? ⟨p, 2, none⟩ = some (.string x.s) := by rw [cell_in 2 hx]; rfl
    have x3 : W.cell? ⟨p, 3, none⟩ = some (.slice x.a x.len x.cap) := by rw [cell_in 3 hx]; rfl
    have HB := Lib.hid hb
    have HE := Lib.hid he
    have HA0 := Lib.hid ha0
    have HXX := Lib.hid hx
    clear hb he ha0 hx ha
    gi_wp2_with fail
    have hmx : Tryd.prog.follows .mixedOrders = true := by kernel_rfl
    obtain ⟨g, cap, w7, cur, hrun, hgr, hgl, hcap, hgc, q0, q1, q2, q3⟩ := app_zero_drew W
    have A0 : (W.alloc (Obj.cells #[Value.int IntKind.i64 0, Value.int IntKind.i64 0, Value.string { data := #[] }, Value.slice none 0 0] 24)).heap[w1.heap.size]? = some (Obj.cells #[Value.int IntKind.i64 6, Value.int IntKind.i64 0, Value.string { data := #[] }, Value.slice none 0 0] 24 (0, 0)) := (Below.heap_alloc _ _ _ (Array.getElem?_eq_some_iff.1 HA0.out).1).trans HA0.out
    have AX : (W.alloc (Obj.cells #[Value.int IntKind.i64 0, Value.int IntKind.i64 0, Value.string { data := #[] }, Value.slice none 0 0] 24)).heap[p]? = some (Obj.cells #[.int .i64 x.k, .int .i64 x.n, .string x.s, .slice x.a x.len x.cap] 24 (0, 0)) := (Below.heap_alloc _ _ _ (Array.getElem?_eq_some_iff.1 HXX.out).1).trans HXX.out
    have e3A := (cell_in 3 A0).trans (show _ = some (.slice none 0 0) from rfl)
    have x0A := (cell_in 0 AX).trans (show _ = some (.int .i64 x.k) from rfl)
    have x1A := (cell_in 1 AX).trans (show _ = some (.int .i64 x.n) from rfl)
    have x2A := (cell_in 2 AX).trans (show _ = some (.string x.s) from rfl)
    have x3A := (cell_in 3 AX).trans (show _ = some (.slice x.a x.len x.cap) from rfl)
    have hAlt : w1.heap.size < W.heap.size := (Array.getElem?_eq_some_iff.1 HA0.out).1
    have hgW : W.heap.size ≤ g := hgl
    have hga : g ≠ w1.heap.size := by omega
    have hag : w1.heap.size ≠ g := by omega
    have A7 : w7.heap[w1.heap.size]? = some (Obj.cells #[Value.int IntKind.i64 6, Value.int IntKind.i64 0, Value.string { data := #[] }, Value.slice none 0 0] 24 (0, 0)) := (hgr.block _ (Array.getElem?_eq_some_iff.1 A0).1 (by simp)).trans A0
    have e7 := (cell_in 3 A7).trans (show _ = some (.slice none 0 0) from rfl)
    have f7 := free_in 3 A7
    have d0 := (cell_in 0 hgc).trans q0
    have d1 := (cell_in 1 hgc).trans q1
    have d2 := (cell_in 2 hgc).trans q2
    have d3 := (cell_in 3 hgc).trans q3
    have r0 := free_in 0 hgc
    have r1 := free_in 1 hgc
    have r2 := free_in 2 hgc
    have r3 := free_in 3 hgc
    have G9 : (w7.setCell ⟨w1.heap.size, 3, none⟩ (.slice (some ⟨g, 0, none⟩) 1 cap)).heap[g]? = some (Obj.cells cur 24 (0, 0)) := (Below.heap_setCell _ _ _ _ hga).trans hgc
    have D0 := (cell_in 0 G9).trans q0
    have D1 := (cell_in 1 G9).trans q1
    have D2 := (cell_in 2 G9).trans q2
    have D3 := (cell_in 3 G9).trans q3
    have R0 := free_in 0 G9
    have R1 := free_in 1 G9
    have R2 := free_in 2 G9
    have R3 := free_in 3 G9
    have A8 : ((((w7.setCell ⟨g, 0, none⟩ (.int .i64 x.k)).setCell ⟨g, 1, none⟩ (.int .i64 x.n)).setCell ⟨g, 2, none⟩ (.string x.s)).setCell ⟨g, 3, none⟩ (.slice x.a x.len x.cap)).heap[w1.heap.size]? = some (Obj.cells #[Value.int IntKind.i64 6, Value.int IntKind.i64 0, Value.string { data := #[] }, Value.slice none 0 0] 24 (0, 0)) := by
      rw [Below.heap_setCell _ _ _ _ hag, Below.heap_setCell _ _ _ _ hag, Below.heap_setCell _ _ _ _ hag, Below.heap_setCell _ _ _ _ hag]; exact A7
    have e8 := (cell_in 3 A8).trans (show _ = some (.slice none 0 0) from rfl)
    have f8 := free_in 3 A8
    have HG := Lib.hid hgr
    have H7 := Lib.hid A7
    have H8 := Lib.hid A8
    have HC := Lib.hid hgc
    have H9 := Lib.hid G9
    clear A0 AX A7 A8 G9 hgr hgc q0 q1 q2 q3
    have hBW : Below W.heap.size W w7 := ((Below.refl W.heap.size W).alloc (Nat.le_refl _) _).grown HG.out (by simp) (fun k e => by cases e)
    have hwW : w.heap.size ≤ W.heap.size := hg.size
    have fin : ∀ Wf : World, (∀ k, k ≠ g → k ≠ w1.heap.size → Wf.heap[k]? = w7.heap[k]?) → KeepsOthers w7 Wf → Below w.heap.size w7 Wf →
        Wf.heap[w1.heap.size]? = some (Obj.cells #[Value.int IntKind.i64 6, Value.int IntKind.i64 0, Value.string { data := #[] }, Value.slice (some ⟨g, 0, none⟩) 1 cap] 24 (0, 0)) →
        KeepsFrom w2.heap.size W Wf ∧ True ∧ SameR W Wf ∧ (((Wf.heap[w.heap.size]? = some (Obj.cells #[Value.int IntKind.i64 0, Value.int IntKind.i64 0, Value.string { data := #[] }, Value.slice none 0 0] 24 (0, 0)) ∧ True) ∧ Boxed Wf (w.heap.size + 1) 60 .nilIface) ∧ w.grownBy Wf (some b)) ∧ ArrBox w1.heap.size ([] ++ [x]) Wf := fun Wf h1 h2 h3 h4 => by
      have hb7 := (hBW.block _ (Array.getElem?_eq_some_iff.1 HB.out).1).trans HB.out
      have he7 := boxed_later HE.out hBW
      refine ⟨(KeepsFrom.of_below hBW).trans (h2.from _), trivial, (SameR.of_below hBW).trans fun k c T hT hk => (h1 k (fun e => ?_) (fun e => ?_)).trans hk, ⟨⟨⟨(h1 _ (by omega) (by omega)).trans hb7, trivial⟩, (h1 _ (by omega) (by omega)).trans he7⟩, ?_⟩, fun e => by simp at e, fun _ => ⟨_, _, _, h4⟩⟩
      · subst e; rw [HC.out] at hk; cases hk; revert hT; decide
      · subst e; rw [H7.out] at hk; cases hk; revert hT; decide
      · exact grown_mono hg ((hBW.mono hwW).trans h3)
    refine wpIn_mono (Q := fun e _ W' => e = .normal ∧ ArrEnd w7 g w1.heap.size w.heap.size cap W') ?_ (fun e a' W' h => ?_)
    rotate_left
    · obtain ⟨rfl, h1, h2, h3, h4⟩ := h
      exact fin W' h1 h2 h3 h4
    have hgn : w.heap.size ≤ g := Nat.le_trans hwW hgW
    have hpn : w.heap.size ≤ w1.heap.size := by omega
    clear fin
    have hL : ¬ LetsOut (fun (e : Exit) (_ : Act) W' => e = .normal ∧ ArrEnd w7 g w1.heap.size w.heap.size cap W') := fun ⟨_, _, h⟩ => by cases h.1
    have hpg : p ≠ g := by have := (Array.getElem?_eq_some_iff.1 HXX.out).1; omega
    have hpa : p ≠ w1.heap.size := by omega
    have X7 : w7.heap[p]? = some (Obj.cells #[.int .i64 x.k, .int .i64 x.n, .string x.s, .slice x.a x.len x.cap] 24 (0, 0)) := (HG.out.block _ (by have := (Array.getElem?_eq_some_iff.1 HXX.out).1; simp; omega) (by simp)).trans ((Below.heap_alloc _ _ _ (Array.getElem?_eq_some_iff.1 HXX.out).1).trans HXX.out)
    have S0 : BoxR p x W.drew := BoxR.of HXX.out
    have SA : BoxR p x (W.alloc (Obj.cells #[Value.int IntKind.i64 0, Value.int IntKind.i64 0, Value.string { data := #[] }, Value.slice none 0 0] 24)).drew := BoxR.of ((Below.heap_alloc _ _ _ (Array.getElem?_eq_some_iff.1 HXX.out).1).trans HXX.out)
    have S7 : BoxR p x w7 := BoxR.of X7
    have S8 : ∀ Wf : World, (∀ k, k ≠ g → k ≠ w1.heap.size → Wf.heap[k]? = w7.heap[k]?) → BoxR p x Wf := fun Wf h => BoxR.of ((h p hpg hpa).trans X7)
    have HX7 := Lib.hid X7
    clear X7
    refine wpIn_region_any hmx (Sched.wpAnyIn_of (by kernel_rfl) hL _ _ _ _ (wpAny_of_held (S := BoxR p x) _ _ _ _ ?_))
    change wpAnyH _ _ _ _ _ _ _ _ (World.drew _)
    refine wpAnyH_take (i := 0) (v := .pointer (some ⟨w1.heap.size, 3, none⟩)) rfl (by kernel_rfl) (by decide +kernel) (by decide +kernel) (fun _ _ _ h => h) (.inl ⟨by rfl, fun W' hS => by go_simp⟩) S0 ?_
    simp only [Act.put, List.setIfInBounds_toArray, List.set_cons_zero, List.set_cons_succ]
    refine wpAnyH_take (i := 2) (v := .agg #[.int .i64 x.k, .int .i64 x.n, .string x.s, .slice x.a x.len x.cap]) rfl (by kernel_rfl) (by decide +kernel) (by decide +kernel) (fun _ _ _ h => h) (.inl ⟨by rfl, fun W' hS => by obtain ⟨c0, c1, c2, c3⟩ := hS; go_simp⟩) S0 ?_
    simp only [Act.put, List.setIfInBounds_toArray, List.set_cons_zero, List.set_cons_succ]
    refine wpAnyH_all (rs := [1, 4]) (by decide +kernel) (by simp) ?_
    intro i hi
    simp only [List.mem_cons, List.not_mem_nil, or_false] at hi
    rcases hi with rfl | rfl
    · refine op_do rfl (by rfl) fun K' hK => ?_
      go_simp
      refine hK _ _ S0 ?_
      clear hK K'
      refine wpAnyH_take (i := 3) (v := .int .i64 0) rfl (by kernel_rfl) (by decide +kernel) (by decide +kernel) (fun _ _ _ h => h) (.inl ⟨by rfl, fun W' hS => by go_simp⟩) S0 ?_
      simp only [Act.put, List.setIfInBounds_toArray, List.set_cons_zero, List.set_cons_succ]
      refine wpAnyH_all (rs := [4]) (by decide +kernel) (by simp) ?_
      intro i hi
      rw [List.mem_singleton] at hi
      subst hi
      refine op_do rfl (by rfl) fun K' hK => ?_
      go_simp
      refine hK _ _ SA ?_
      clear hK K'
      refine wpAnyH_all (rs := [5]) (by decide +kernel) (by simp) ?_
      intro i hi
      rw [List.mem_singleton] at hi
      subst hi
      refine op_do rfl (by rfl) fun K' hK => ?_
      refine wp_append_at _ _ 22 22 rfl rfl rfl hrun ?_
      refine hK _ _ S7 ?_
      clear hK K'
      simp only [Act.put, List.setIfInBounds_toArray, List.set_cons_zero, List.set_cons_succ]
      refine wpAnyH_take (i := 6) (v := .pointer (some ⟨g, 0, none⟩)) rfl (by kernel_rfl) (by decide +kernel) (by decide +kernel) (fun _ _ _ h => h) (.inl ⟨by rfl, fun W' hS => by go_simp⟩) S7 ?_
      simp only [Act.put, List.setIfInBounds_toArray, List.set_cons_zero, List.set_cons_succ]
      refine wpAnyH_take (i := 8) (v := .pointer (some ⟨w1.heap.size, 3, none⟩)) rfl (by kernel_rfl) (by decide +kernel) (by decide +kernel) (fun _ _ _ h => h) (.inl ⟨by rfl, fun W' hS => by go_simp⟩) S7 ?_
      simp only [Act.put, List.setIfInBounds_toArray, List.set_cons_zero, List.set_cons_succ]
      refine wpAnyH_all (rs := [7, 9]) (by decide +kernel) (by simp) ?_
      intro i hi
      simp only [List.mem_cons, List.not_mem_nil, or_false] at hi
      rcases hi with rfl | rfl
      · refine op_do rfl (by rfl) fun K' hK => ?_
        go_simp
        refine hK _ _ (S8 _ (by intro k hk hk2; rw [Below.heap_setCell _ _ _ _ hk, Below.heap_setCell _ _ _ _ hk, Below.heap_setCell _ _ _ _ hk, Below.heap_setCell _ _ _ _ hk])) ?_
        clear hK K'
        refine wpAnyH_all (rs := [9]) (by decide +kernel) (by simp) ?_
        intro i hi
        rw [List.mem_singleton] at hi
        subst hi
        refine op_do rfl (by rfl) fun K' hK => ?_
        go_simp
        refine hK _ _ (S8 _ (by intro k hk hk2; rw [Below.heap_setCell _ _ _ _ hk2, Below.heap_setCell _ _ _ _ hk, Below.heap_setCell _ _ _ _ hk, Below.heap_setCell _ _ _ _ hk, Below.heap_setCell _ _ _ _ hk])) ?_
        clear hK K'
        exact wpAnyH_done (by decide +kernel) ⟨rfl, arr_end1 hgn hpn hag H7.out _ _ _ _⟩ _
      · refine op_do rfl (by rfl) fun K' hK => ?_
        go_simp
        refine hK _ _ (S8 _ (by intro k hk hk2; rw [Below.heap_setCell _ _ _ _ hk2])) ?_
        clear hK K'
        refine wpAnyH_all (rs := [7]) (by decide +kernel) (by simp) ?_
        intro i hi
        rw [List.mem_singleton] at hi
        subst hi
        refine op_do rfl (by rfl) fun K' hK => ?_
        go_simp
        refine hK _ _ (S8 _ (by intro k hk hk2; rw [Below.heap_setCell _ _ _ _ hk, Below.heap_setCell _ _ _ _ hk, Below.heap_setCell _ _ _ _ hk, Below.heap_setCell _ _ _ _ hk, Below.heap_setCell _ _ _ _ hk2])) ?_
        clear hK K'
        exact wpAnyH_done (by decide +kernel) ⟨rfl, arr_end2 hgn hpn hag H7.out _ _ _ _⟩ _
    · refine op_do rfl (by rfl) fun K' hK => ?_
      go_simp
      refine hK _ _ SA ?_
      clear hK K'
      refine wpAnyH_all (rs := [1]) (by decide +kernel) (by simp) ?_
      intro i hi
      rw [List.mem_singleton] at hi
      subst hi
      refine op_do rfl (by rfl) fun K' hK => ?_
      go_simp
      refine hK _ _ SA ?_
      clear hK K'
      refine wpAnyH_take (i := 3) (v := .int .i64 0) rfl (by kernel_rfl) (by decide +kernel) (by decide +kernel) (fun _ _ _ h => h) (.inl ⟨by rfl, fun W' hS => by go_simp⟩) SA ?_
      simp only [Act.put, List.setIfInBounds_toArray, List.set_cons_zero, List.set_cons_succ]
      refine wpAnyH_all (rs := [5]) (by decide +kernel) (by simp) ?_
      intro i hi
      rw [List.mem_singleton] at hi
      subst hi
      refine op_do rfl (by rfl) fun K' hK => ?_
      refine wp_append_at _ _ 22 22 rfl rfl rfl hrun ?_
      refine hK _ _ S7 ?_
      clear hK K'
      simp only [Act.put, List.setIfInBounds_toArray, List.set_cons_zero, List.set_cons_succ]
      refine wpAnyH_take (i := 6) (v := .pointer (some ⟨g, 0, none⟩)) rfl (by kernel_rfl) (by decide +kernel) (by decide +kernel) (fun _ _ _ h => h) (.inl ⟨by rfl, fun W' hS => by go_simp⟩) S7 ?_
      simp only [Act.put, List.setIfInBounds_toArray, List.set_cons_zero, List.set_cons_succ]
      refine wpAnyH_take (i := 8) (v := .pointer (some ⟨w1.heap.size, 3, none⟩)) rfl (by kernel_rfl) (by decide +kernel) (by decide +kernel) (fun _ _ _ h => h) (.inl ⟨by rfl, fun W' hS => by go_simp⟩) S7 ?_
      simp only [Act.put, List.setIfInBounds_toArray, List.set_cons_zero, List.set_cons_succ]
      refine wpAnyH_all (rs := [7, 9]) (by decide +kernel) (by simp) ?_
      intro i hi
      simp only [List.mem_cons, List.not_mem_nil, or_false] at hi
      rcases hi with rfl | rfl
      · refine op_do rfl (by rfl) fun K' hK => ?_
        go_simp
        refine hK _ _ (S8 _ (by intro k hk hk2; rw [Below.heap_setCell _ _ _ _ hk, Below.heap_setCell _ _ _ _ hk, Below.heap_setCell _ _ _ _ hk, Below.heap_setCell _ _ _ _ hk])) ?_
        clear hK K'
        refine wpAnyH_all (rs := [9]) (by decide +kernel) (by simp) ?_
        intro i hi
        rw [List.mem_singleton] at hi
        subst hi
        refine op_do rfl (by rfl) fun K' hK => ?_
        go_simp
        refine hK _ _ (S8 _ (by intro k hk hk2; rw [Below.heap_setCell _ _ _ _ hk2, Below.heap_setCell _ _ _ _ hk, Below.heap_setCell _ _ _ _ hk, Below.heap_setCell _ _ _ _ hk, Below.heap_setCell _ _ _ _ hk])) ?_
        clear hK K'
        exact wpAnyH_done (by decide +kernel) ⟨rfl, arr_end1 hgn hpn hag H7.out _ _ _ _⟩ _
      · refine op_do rfl (by rfl) fun K' hK => ?_
        go_simp
        refine hK _ _ (S8 _ (by intro k hk hk2; rw [Below.heap_setCell _ _ _ _ hk2])) ?_
        clear hK K'
        refine wpAnyH_all (rs := [7]) (by decide +kernel) (by simp) ?_
        intro i hi
        rw [List.mem_singleton] at hi
        subst hi
        refine op_do rfl (by rfl) fun K' hK => ?_
        go_simp
        refine hK _ _ (S8 _ (by intro k hk hk2; rw [Below.heap_setCell _ _ _ _ hk, Below.heap_setCell _ _ _ _ hk, Below.heap_setCell _ _ _ _ hk, Below.heap_setCell _ _ _ _ hk, Below.heap_setCell _ _ _ _ hk2])) ?_
        clear hK K'
        exact wpAnyH_done (by decide +kernel) ⟨rfl, arr_end2 hgn hpn hag H7.out _ _ _ _⟩ _
  case done =>
    rintro D ys W hD hne ⟨⟨⟨⟨hb, _⟩, he⟩, hg⟩, ha⟩ hRb hK
    clear hseq
    obtain ⟨aa, ll, cc, hA⟩ := ha.2 hne
    have e0 : W.cell? ⟨w1.heap.size, 0, none⟩ = some (.int .i64 6) := by rw [cell_in 0 hA]; rfl
    have e1 : W.cell? ⟨w1.heap.size, 1, none⟩ = some (.int .i64 0) := by rw [cell_in 1 hA]; rfl
    have e2 : W.cell? ⟨w1.heap.size, 2, none⟩ = some (.string ⟨#[]⟩) := by rw [cell_in 2 hA]; rfl
    have e3 : W.cell? ⟨w1.heap.size, 3, none⟩ = some (.slice aa ll cc) := by rw [cell_in 3 hA]; rfl
    have r0 : W.cell? ⟨w.heap.size, 0, none⟩ = some (.int .i64 0) := by rw [cell_in 0 hb]; rfl
    have r1 : W.cell? ⟨w.heap.size, 1, none⟩ = some (.int .i64 0) := by rw [cell_in 1 hb]; rfl
    have r2 : W.cell? ⟨w.heap.size, 2, none⟩ = some (.string ⟨#[]⟩) := by rw [cell_in 2 hb]; rfl
    have r3 : W.cell? ⟨w.heap.size, 3, none⟩ = some (.slice none 0 0) := by rw [cell_in 3 hb]; rfl
    have f0 := free_in 0 hb
    have f1 := free_in 1 hb
    have f2 := free_in 2 hb
    have f3 := free_in 3 hb
    have re := he.cell
    have fe := free_in 0 he
    have HX := Lib.hid hb
    have HE := Lib.hid he
    have HK := Lib.hid hK
    clear hb he hK ha hA
    go_wp2
    obtain ⟨g1, g2, g3⟩ := four_set (.int .i64 6) (.int .i64 0) (.string ⟨#[]⟩) (.slice aa ll cc) HX.out
    have hDa : D ≠ w.heap.size := by omega
    have hDb : D ≠ w.heap.size + 1 := by omega
    have hRb4 := (g2 b (by omega)).trans hRb
    have hE4 : Boxed ((((W.setCell { block := w.heap.size, off := 0 } (Value.int IntKind.i64 6)).setCell { block := w.heap.size, off := 1 } (Value.int IntKind.i64 0)).setCell
          { block := w.heap.size, off := 2 } (Value.string { data := #[] })).setCell { block := w.heap.size, off := 3 } (Value.slice aa ll cc)) (w.heap.size + 1) 60 .nilIface := (g2 _ (by omega)).trans HE.out
    have hK4 := (g2 D hDa).trans HK.out
    have hB4 := g3 w.heap.size (Nat.le_refl _)
    generalize ((((W.setCell { block := w.heap.size, off := 0 } (Value.int IntKind.i64 6)).setCell { block := w.heap.size, off := 1 } (Value.int IntKind.i64 0)).setCell
          { block := w.heap.size, off := 2 } (Value.string { data := #[] })).setCell { block := w.heap.size, off := 3 } (Value.slice aa ll cc)) = W4 at *
    have hB5 := hB4.setCell (p := ⟨w.heap.size + 1, 0, none⟩) (by simp) .nilIface
    have hE5 := Boxed.set .nilIface hE4
    have g5 := (Below.heap_setCell W4 ⟨w.heap.size + 1, 0, none⟩ .nilIface w.heap.size (by simp)).trans g1
    have hK5 := (Below.heap_setCell W4 ⟨w.heap.size + 1, 0, none⟩ .nilIface D (by simp; omega)).trans hK4
    have hR5 := (Below.heap_setCell W4 ⟨w.heap.size + 1, 0, none⟩ .nilIface b (by simp; omega)).trans hRb4
    generalize W4.setCell { block := w.heap.size + 1, off := 0 } Value.nilIface = W5 at *
    refine ⟨by simp, .inl ⟨_, _, rfl, run_takeDeferred hK5, ?_⟩⟩
    have hx4 := (World.putObj_heap_other (w := W5) (r := D) (o := .deferred none) hDa.symm).trans g5
    have hx5 : Boxed (W5.putObj D (.deferred none)) (w.heap.size + 1) 60 .nilIface := (World.putObj_heap_other (w := W5) (r := D) (o := .deferred none) hDb.symm).trans hE5
    have b0 := cell_in 0 hx4
    have b1 := cell_in 1 hx4
    have b2 := cell_in 2 hx4
    have b3 := cell_in 3 hx4
    have b5 := hx5.cell
    refine ⟨.tuple #[.agg #[.int .i64 6, .int .i64 0, .string ⟨#[]⟩, .slice aa ll cc], .nilIface], ?_, ⟨6, 0, ⟨#[]⟩, aa, ll, cc⟩, rfl, ?_, ?_⟩
    · simp [results, Tryd.f31, go_sem, b0, b1, b2, b3, b5]
    · exact grown_mono (grown_mono hg hB5) (belowK_b (w := w) (Nat.le_refl _) W5 D _ _ (by omega) hK5 rfl rfl)
    · exact (World.putObj_heap_other (fun e => by subst e; omega)).trans hR5
  case stop =>
    rintro D pre W hD _ hF
    exact hF.elim

end Go.Proofs.YtjcgfbmkgfhnaaaDoor
