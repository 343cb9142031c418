/- A reader's reply, where it has an error. -/
import Derived.Test.YtjcgfbmkgfhnaaaDoorRange
import Derived.Test.YtjcgfbmkgfhnaaaDoorHead
import Derived.Test.YtjcgfbmkgfhnaaaDoorArray
namespace Go.Proofs.YtjcgfbmkgfhnaaaDoor
open Go.RowKit Go.Shelf
attribute [local go_sem] Oper.semAt_some

def zeroR : Value := .agg #[.int .i64 0, .int .i64 0, .string ⟨#[]⟩, .slice none 0 0]

/-- The reader's box, and those of the iterator, hold what they held. -/
def SameR (W W' : World) : Prop := ∀ (k : Nat) (c : Array Value) (T : Nat), (T = 58 ∨ T = 74 ∨ T = 3) → W.heap[k]? = some (Obj.cells c T (0, 0)) → W'.heap[k]? = some (Obj.cells c T (0, 0))
theorem SameR.refl (W : World) : SameR W W := fun _ _ _ _ h => h
theorem SameR.trans {A B C : World} (h : SameR A B) (g : SameR B C) : SameR A C := fun k c T hT hk => g k c T hT (h k c T hT hk)
theorem SameR.of_below {A B : World} (h : Below A.heap.size A B) : SameR A B := fun k _ _ _ hk => (h.block k (Array.getElem?_eq_some_iff.1 hk).1).trans hk
theorem SameR.but {A B : World} {b T : Nat} {c : Array Value} (h : A.heap[b]? = some (Obj.cells c T (0, 0))) (hT : ¬ (T = 58 ∨ T = 74 ∨ T = 3)) (hk : ∀ k, k ≠ b → B.heap[k]? = A.heap[k]?) : SameR A B := fun k c' T' hT' hh => by
  by_cases e : k = b
  · subst e; rw [h] at hh; cases hh; exact (hT hT').elim
  · exact (hk k e).trans hh
theorem grown_mono {w A B : World} {row : Option Nat} (h : w.grownBy A row) (g : Below w.heap.size A B) : w.grownBy B row :=
  ⟨g.os.trans h.os, g.tape.trans h.tape, g.output.trans h.output, Nat.le_trans h.size g.size, fun k hk hne => (g.block k hk).trans (h.block k hk hne)⟩
theorem SameR.bookkeeping {w : World} (W : World) (l : Nat) (o o' : Obj) (_ : w.heap.size ≤ l) (h : W.heap[l]? = some o) (hc : o.isCells = false) (_ : o.isWalk = false) : SameR W (W.putObj l o') := fun k c T _ hk => by
  by_cases e : k = l
  · subst e; rw [h] at hk; cases hk; cases hc
  · exact (World.putObj_heap_other e).trans hk

/-- A reply with an error. -/
def RepErr (b : Nat) (h : Int) (er : Value) (W : World) (e : Ending) (W' : World) : Prop := e = .returned (.tuple #[zeroR, er]) ∧ W.grownBy W' (some b) ∧ ∃ t', Reader W' b t' h

theorem replies_any (b : Nat) (n : Int) (w : World) :
    Calls Tryd.prog 38 #[.pointer (some ⟨b, 0, none⟩), .int .i64 n] w fun e w' => e = .returned (.func (.func 44) #[] #[.pointer (some ⟨w.heap.size, 0, none⟩), .pointer (some ⟨w.heap.size + 1, 0, none⟩)]) ∧
      w' = (w.alloc (.cells #[.pointer (some ⟨b, 0, none⟩)] 74)).alloc (.cells #[.int .i64 n] 3) := by
  have hmf : ∀ (fn : Fn) (first cap : Array Value) (w : World), (Instr.makeFunc fn first cap).run Tryd.prog w = .ok (.func fn first cap) w := fun _ _ _ _ => rfl
  go_enter Tryd.func38, Tryd.ntmps38
  go_wp2
  go_ret
  exact ⟨rfl, rfl⟩

set_option maxRecDepth 100000 in
set_option maxHeartbeats 2000000 in
theorem replies_err (b B1 B2 : Nat) (n : Int) (hn : 1 ≤ n) (t : ByteArray) (h : Int) (hh : 0 ≤ h) (hh2 : h ≤ 1000) (er : Value) (w : World) (hR : Reader w b t h) (h1 : Boxed w B1 74 (.pointer (some ⟨b, 0, none⟩))) (h2 : Boxed w B2 3 (.int .i64 n)) 
    (HC : ∀ W, w.grownBy W (some b) → Reader W b t (h + 1) → Calls Tryd.prog 23 #[.pointer (some ⟨b, 0, none⟩)] W (RepErr b (h + 1) er W)) :
    SeqB Tryd.prog 44 #[.pointer (some ⟨B1, 0, none⟩), .pointer (some ⟨B2, 0, none⟩)] (fun _ : Unit => #[zeroR, er]) (fun _ => False) SameR (fun _ => False) (fun _ => True) (fun W' => ∃ t', Reader W' b t' h) b w := by
  intro l J Jx W hW hJ hJx hY h0
  have hb1 : B1 ≠ b := fun e => by subst e; have := (show w.heap[B1]? = _ from h1).symm.trans hR; simp at this
  have hb2 : B2 ≠ b := fun e => by subst e; have := (show w.heap[B2]? = _ from h2).symm.trans hR; simp at this
  have hRW := Reader.later hR hW
  have b1W := (boxed_later h1 hW).cell
  have b2W := (boxed_later h2 hW).cell
  have r1 : W.cell? ⟨b, 1, none⟩ = some (.int .i64 h) := by rw [cell_in 1 hRW]; rfl
  have f1 := free_in 1 hRW
  obtain ⟨W1, hW1⟩ : ∃ W1, W.setCell ⟨b, 1, none⟩ (.int .i64 (h + 1)) = W1 := ⟨_, rfl⟩
  have hg1 : W.grownBy W1 (some b) := by rw [← hW1]; exact grown_set _ _ _ _
  have hR1 : Reader W1 b t (h + 1) := by rw [← hW1]; exact set_in 1 (.int .i64 (h + 1)) hRW
  have hj1 := hJ _ _ _ h0 hg1
  have hB1W1 : Boxed W1 B1 74 (.pointer (some ⟨b, 0, none⟩)) := (boxed_later h1 hW).kept hg1 (by simp [hb1])
  have hB2W1 : Boxed W1 B2 3 (.int .i64 n) := (boxed_later h2 hW).kept hg1 (by simp [hb2])
  have c1 := hB1W1.cell
  have c2 := hB2W1.cell
  have hgw : w.grownBy W1 (some b) := (grown_of_below hW).trans hg1
  have HCC := Lib.hid (HC W1 hgw hR1)
  have hn0 : 0 < n := by omega
  refine callsIn_of_wp Tryd.func44 rfl trivial ?_ rfl
  simp only [Tryd.ntmps44, List.size_toArray, List.length_cons, List.length_nil, Nat.reduceAdd, Nat.reduceSub, Array.replicate_succ, Array.replicate_zero, List.push_toArray, List.append_toArray, List.nil_append, List.cons_append]
  gi_wp2
  refine wpIn_loop_rounds 1 ?_
  rw [roundsIn_succ]
  gi_wp2_with fail
  refine ⟨trivial, ?_⟩
  refine callsIn_wide.2 (Calls.mono HCC.out ?_)
  rintro e W2 ⟨rfl, hg2, t2, hR2⟩
  have hj2 := hJ _ _ _ hj1 hg2
  have hB1W2 : Boxed W2 B1 74 (.pointer (some ⟨b, 0, none⟩)) := hB1W1.kept hg2 (by simp [hb1])
  obtain ⟨fn, tmps, assign, body, hy, hRd⟩ := hY [] () W2 hj2
  unfold zeroR
  unfold zeroR at hy
  gi_wp2_with fail
  (try refine ⟨fun _ => by decide, ?_⟩)
  refine hRd.mono ?_
  rintro e W3 (⟨rfl, hF, _⟩ | ⟨rfl, hx3, hk3⟩)
  · exact hF.elim
  · have hR3 : Reader W3 b t2 (h + 1) := hk3 _ _ _ (.inl rfl) hR2
    have hB13 : Boxed W3 B1 74 (.pointer (some ⟨b, 0, none⟩)) := hk3 _ _ _ (.inr (.inl rfl)) hB1W2
    have c13 := hB13.cell
    have r13 : W3.cell? ⟨b, 1, none⟩ = some (.int .i64 (h + 1)) := by rw [cell_in 1 hR3]; rfl
    have f13 := free_in 1 hR3
    gi_wp2
    go_end0
    exact ⟨⟨_, rfl⟩, ⟨t2, set_in 1 (.int .i64 h) hR3⟩, .inr ⟨_, trivial, hJx _ _ _ hx3 (grown_set _ _ _ _)⟩⟩

theorem reader_put (b : Nat) (h : Int) (W : World) (l : Nat) (o o' : Obj) (hl : W.heap[l]? = some o) (ho : o.isCells = false) (hr : ∃ t', Reader W b t' h) : ∃ t', Reader (W.putObj l o') b t' h := by
  obtain ⟨t', hR⟩ := hr
  refine ⟨t', (World.putObj_heap_other (fun e => ?_)).trans hR⟩
  subst e
  rw [show W.heap[b]? = _ from hR] at hl; cases hl; cases ho
theorem grown_own {β : Type} {w0 : World} {b B : Nat} (hB : w0.heap.size ≤ B) : OwnFrom B (fun (_ : β) W => w0.grownBy W (some b)) := fun _ X Y row hs hg hr =>
  ⟨hg.os.trans hs.os, hg.tape.trans hs.tape, hg.output.trans hs.output, Nat.le_trans hs.size hg.size, fun k hk hne => (hg.block k (Nat.lt_of_lt_of_le hk hs.size) (fun e => by have := (hr k e.symm).1; omega)).trans (hs.block k hk hne)⟩

set_option maxRecDepth 100000 in
set_option maxHeartbeats 2000000 in
theorem array_err (b : Nat) (n : Int) (hn : 1 ≤ n) (t : ByteArray) (h : Int) (hh : 0 ≤ h) (hh2 : h ≤ 1000) (pe : Addr) (w : World) (hR : Reader w b t h)
    (HC : ∀ W, w.grownBy W (some b) → Reader W b t (h + 1) → Calls Tryd.prog 23 #[.pointer (some ⟨b, 0, none⟩)] W (RepErr b (h + 1) (.iface 134 (.pointer (some pe))) W)) :
    Calls Tryd.prog 31 #[.pointer (some ⟨b, 0, none⟩), .int .i64 n] w (RepErr b h (.iface 134 (.pointer (some pe))) w) := by
  have HA := fun w => Lib.hid (array_any none 0 .nil w (IsFo.nil _ _ _) (by simp [Fo.depth]))
  refine (callsIn_wide (n := 6)).1 (callsIn_of_wp_marks Tryd.func31 rfl trivial ?_ rfl)
  refine wpIn_wide.2 ?_
  simp only [Tryd.ntmps31, List.size_toArray, List.length_cons, List.length_nil, Nat.reduceAdd, Nat.reduceSub, Array.replicate_succ, Array.replicate_zero, List.push_toArray, List.append_toArray, List.nil_append, List.cons_append]
  go_wp2_with fail
  refine (HA _).out.mono ?_
  clear HA
  rintro e w1 ⟨aa, cc, tt, rfl, _, _, hb1⟩
  have hR0 : ((w.alloc (Obj.cells #[Value.int IntKind.i64 0, Value.int IntKind.i64 0, Value.string { data := #[] }, Value.slice none 0 0] 24)).alloc (Obj.cells #[Value.nilIface] 60)).heap[w.heap.size]? = some (Obj.cells #[Value.int IntKind.i64 0, Value.int IntKind.i64 0, Value.string { data := #[] }, Value.slice none 0 0] 24 (0, 0)) := (Below.heap_alloc _ _ _ (by simp)).trans (heap_at rfl)
  have hE0 : Boxed ((w.alloc (Obj.cells #[Value.int IntKind.i64 0, Value.int IntKind.i64 0, Value.string { data := #[] }, Value.slice none 0 0] 24)).alloc (Obj.cells #[Value.nilIface] 60)) (w.heap.size + 1) 60 .nilIface := heap_at (by simp)
  have hR1 := (hb1.block _ (by simp; omega)).trans hR0
  have hE1 := boxed_later hE0 hb1
  have hB1 : Below w.heap.size w w1 := (((Below.refl _ _).alloc (Nat.le_refl _) _).alloc (by simp) _).trans (hb1.mono (by simp; omega))
  have hwz : w.heap.size + 1 < w1.heap.size := hE1.lt
  clear hb1 hR0 hE0
  go_wp2_with (go_at_call 38; refine (replies_any b n _).mono ?_; rintro e w' ⟨rfl, rfl⟩)
  have hsz : (((w1.alloc (Obj.cells #[Value.int IntKind.i64 6, Value.int IntKind.i64 0, Value.string { data := #[] }, Value.slice aa Fo.nil.len cc] 24)).alloc (Obj.cells #[Value.pointer (some { block := b, off := 0 })] 74)).alloc (Obj.cells #[Value.int IntKind.i64 n] 3)).heap.size = w1.heap.size + 3 := by simp
  have hBB : Below w1.heap.size w1 (((w1.alloc (Obj.cells #[Value.int IntKind.i64 6, Value.int IntKind.i64 0, Value.string { data := #[] }, Value.slice aa Fo.nil.len cc] 24)).alloc (Obj.cells #[Value.pointer (some { block := b, off := 0 })] 74)).alloc (Obj.cells #[Value.int IntKind.i64 n] 3)) := (((Below.refl _ _).alloc (Nat.le_refl _) _).alloc (by simp) _).alloc (by simp; omega) _
  have hx1 : Boxed (((w1.alloc (Obj.cells #[Value.int IntKind.i64 6, Value.int IntKind.i64 0, Value.string { data := #[] }, Value.slice aa Fo.nil.len cc] 24)).alloc (Obj.cells #[Value.pointer (some { block := b, off := 0 })] 74)).alloc (Obj.cells #[Value.int IntKind.i64 n] 3)) (w1.heap.size + 1) 74 (.pointer (some ⟨b, 0, none⟩)) := (Below.heap_alloc _ _ _ (by simp)).trans (heap_at (by simp))
  have hx2 : Boxed (((w1.alloc (Obj.cells #[Value.int IntKind.i64 6, Value.int IntKind.i64 0, Value.string { data := #[] }, Value.slice aa Fo.nil.len cc] 24)).alloc (Obj.cells #[Value.pointer (some { block := b, off := 0 })] 74)).alloc (Obj.cells #[Value.int IntKind.i64 n] 3)) (w1.heap.size + 2) 3 (.int .i64 n) := heap_at (by simp)
  generalize (((w1.alloc (Obj.cells #[Value.int IntKind.i64 6, Value.int IntKind.i64 0, Value.string { data := #[] }, Value.slice aa Fo.nil.len cc] 24)).alloc (Obj.cells #[Value.pointer (some { block := b, off := 0 })] 74)).alloc (Obj.cells #[Value.int IntKind.i64 n] 3)) = w2 at *
  have hb : b < w.heap.size := (Array.getElem?_eq_some_iff.1 hR).1
  have hB2 : Below w.heap.size w w2 := hB1.trans (hBB.mono hB1.size)
  have hRw : Reader w2 b t h := Reader.later hR hB2
  have hZ : w2.heap[w.heap.size]? = some (Obj.cells #[Value.int IntKind.i64 0, Value.int IntKind.i64 0, Value.string { data := #[] }, Value.slice none 0 0] 24 (0, 0)) := (hBB.block _ (by omega)).trans hR1
  have hE2 := boxed_later hE1 hBB
  have hg2 : w.grownBy w2 (some b) := grown_of_below hB2
  have hseq := replies_err b (w1.heap.size + 1) (w1.heap.size + 2) n hn t h hh hh2 (.iface 134 (.pointer (some pe))) w2 hRw hx1 hx2 (fun W hW hRW => HC W (hg2.trans hW) hRW)
  clear hB1 hBB hx1 hx2 hR1 hE1
  have abz : Abides b (fun (_ : List Unit) W => W.heap[w.heap.size]? = some (Obj.cells #[Value.int IntKind.i64 0, Value.int IntKind.i64 0, Value.string { data := #[] }, Value.slice none 0 0] 24 (0, 0)) ∧ True) := fun _ A B hA hg =>
    ⟨(hg.block _ (Array.getElem?_eq_some_iff.1 hA.1).1 (by simp; omega)).trans hA.1, trivial⟩
  have abe : ∀ v : Value, Abides b (fun (_ : List Unit) W => Boxed W (w.heap.size + 1) 60 v) := fun v _ A B hA hg => hA.kept hg (by simp; omega)
  have abg : Abides b (fun (_ : List Unit) W => w.grownBy W (some b)) := fun _ A B hA hg => hA.trans hg
  have owz : OwnFrom w2.heap.size (fun (_ : List Unit) W => W.heap[w.heap.size]? = some (Obj.cells #[Value.int IntKind.i64 0, Value.int IntKind.i64 0, Value.string { data := #[] }, Value.slice none 0 0] 24 (0, 0)) ∧ True) :=
    Own.from (cells_own _ _ (fun _ => #[Value.int IntKind.i64 0, Value.int IntKind.i64 0, Value.string { data := #[] }, Value.slice none 0 0]) (fun _ => True)) _
  have owe : ∀ v : Value, OwnFrom w2.heap.size (fun (_ : List Unit) W => Boxed W (w.heap.size + 1) 60 v) := fun v => Own.from (boxed_own _ _ (fun _ => v)) _
  have owg : OwnFrom w2.heap.size (fun (_ : List Unit) W => w.grownBy W (some b)) := grown_own (by omega)
  have hw2 : w.heap.size ≤ w2.heap.size := by omega
  refine (wpIn_wide (n := 6)).1 (range_own (gf := 44) (lb := #[.pointer (some ⟨w1.heap.size + 1, 0, none⟩), .pointer (some ⟨w1.heap.size + 2, 0, none⟩)]) (encs := fun _ : Unit => #[zeroR, .iface 134 (.pointer (some pe))]) (T := fun _ => False) (Kp := SameR) (S := fun _ => False) (Sp := fun _ => True) (Rb := fun W' => ∃ t', Reader W' b t' h) (b := b) rfl (enters_of Tryd.func44 (by kernel_rfl) rfl) (reader_put b h) (by omega) hseq SameR.trans SameR.bookkeeping (fun _ => rfl)
    (fun pre W => ((W.heap[w.heap.size]? = some (Obj.cells #[Value.int IntKind.i64 0, Value.int IntKind.i64 0, Value.string { data := #[] }, Value.slice none 0 0] 24 (0, 0)) ∧ True) ∧ Boxed W (w.heap.size + 1) 60 .nilIface) ∧ w.grownBy W (some b))
    (fun _ pre W => ((W.heap[w.heap.size]? = some (Obj.cells #[Value.int IntKind.i64 0, Value.int IntKind.i64 0, Value.string { data := #[] }, Value.slice none 0 0] 24 (0, 0)) ∧ True) ∧ Boxed W (w.heap.size + 1) 60 (.iface 134 (.pointer (some pe)))) ∧ w.grownBy W (some b))
    ((owz.and (owe .nilIface)).and owg) (fun _ => (owz.and (owe (.iface 134 (.pointer (some pe))))).and owg)
    (fun s A B hA hg => ⟨⟨abz s A B hA.1.1 hg, abe _ s A B hA.1.2 hg⟩, abg s A B hA.2 hg⟩)
    (fun _ s A B hA hg => ⟨⟨abz s A B hA.1.1 hg, abe _ s A B hA.1.2 hg⟩, abg s A B hA.2 hg⟩)
    ⟨⟨⟨hZ, trivial⟩, hE2⟩, hg2⟩
    (fun x a' _ => ∃ p, a' = { tmps := #[Value.pointer (some { block := b, off := 0 }), Value.int IntKind.i64 n, undef, undef,
          Value.pointer (some { block := w.heap.size, off := 0 }), Value.pointer (some { block := w.heap.size + 1, off := 0 }), Value.pointer (some { block := w1.heap.size, off := 0 }),
          p, Value.iface 134 (Value.pointer (some pe)), Value.agg #[Value.int IntKind.i64 6, Value.int IntKind.i64 0, Value.string { data := #[] }, Value.slice aa Fo.nil.len cc],
          Value.pointer (some { block := b, off := 0 }), Value.int IntKind.i64 n, Value.func (Fn.func 44) #[] #[Value.pointer (some { block := w1.heap.size + 1, off := 0 }), Value.pointer (some { block := w1.heap.size + 1 + 1, off := 0 })],
          Value.agg #[Value.int IntKind.i64 0, Value.int IntKind.i64 0, Value.string { data := #[] }, Value.slice none 0 0],
          Value.iface 134 (Value.pointer (some pe)), undef, undef, undef, undef, undef, undef, undef, undef, undef, undef, undef, undef, undef], defers := [] })
    (fun x a' => fun _ _ _ _ h _ _ => h) ?assign ?body ?done ?stop)
  case assign =>
    rintro l pre x W K ⟨⟨⟨hb, _⟩, he⟩, hg⟩ hK
    clear hseq
    unfold zeroR
    gi_wp2
    have hbw := Below.refl W.heap.size W
    refine hK _ _ ((KeepsOthers.alloc _ _).from _) (SameR.of_below (hbw.alloc (Nat.le_refl _) _)) ⟨⟨⟨?_, trivial⟩, ?_⟩, ?_⟩ ⟨_, rfl⟩
    · exact (Below.heap_alloc _ _ _ (Array.getElem?_eq_some_iff.1 hb).1).trans hb
    · exact boxed_later he (hbw.alloc (Nat.le_refl _) _)
    · exact hg.trans (grown_of_below (hbw.alloc (Nat.le_refl _) _))
  case body =>
    rintro l pre x a' W ⟨⟨⟨hb, _⟩, he⟩, hg⟩ ⟨p, rfl⟩
    clear hseq
    have hbW : b < W.heap.size := Nat.lt_of_lt_of_le ‹b < w.heap.size› hg.size
    have e0 : W.cell? ⟨w.heap.size, 0, none⟩ = some (.int .i64 0) := by rw [cell_in 0 hb]; rfl
    have e1 : W.cell? ⟨w.heap.size, 1, none⟩ = some (.int .i64 0) := by rw [cell_in 1 hb]; rfl
    have e2 : W.cell? ⟨w.heap.size, 2, none⟩ = some (.string ⟨#[]⟩) := by rw [cell_in 2 hb]; rfl
    have e3 : W.cell? ⟨w.heap.size, 3, none⟩ = some (.slice none 0 0) := by rw [cell_in 3 hb]; rfl
    have ee := he.cell
    have f0 := free_in 0 hb
    have f1 := free_in 1 hb
    have f2 := free_in 2 hb
    have f3 := free_in 3 hb
    have fe := free_in 0 he
    have HB := Lib.hid hb
    have HE := Lib.hid he
    have hne : ∀ W : World, (binOp .neq 60 (.iface 134 (.pointer (some pe))) .nilIface).run Tryd.prog W = .ok (.bool true) W := fun W => by simp [go_sem]
    clear hb he
    gi_wp2
    obtain ⟨g1, g2, g3⟩ := four_set (.int .i64 0) (.int .i64 0) (.string ⟨#[]⟩) (.slice none 0 0) HB.out
    have hne1 : w.heap.size + 1 ≠ w.heap.size := by omega
    have HE4 : Boxed ((((W.setCell { block := w.heap.size, off := 0 } (Value.int IntKind.i64 0)).setCell { block := w.heap.size, off := 1 } (Value.int IntKind.i64 0)).setCell
          { block := w.heap.size, off := 2 } (Value.string { data := #[] })).setCell { block := w.heap.size, off := 3 } (Value.slice none 0 0)) (w.heap.size + 1) 60 .nilIface := (g2 _ hne1).trans HE.out
    have hs4 : SameR W ((((W.setCell { block := w.heap.size, off := 0 } (Value.int IntKind.i64 0)).setCell { block := w.heap.size, off := 1 } (Value.int IntKind.i64 0)).setCell
          { block := w.heap.size, off := 2 } (Value.string { data := #[] })).setCell { block := w.heap.size, off := 3 } (Value.slice none 0 0)) := SameR.but HB.out (by decide) g2
    have hk4 : KeepsFrom w2.heap.size W ((((W.setCell { block := w.heap.size, off := 0 } (Value.int IntKind.i64 0)).setCell { block := w.heap.size, off := 1 } (Value.int IntKind.i64 0)).setCell
          { block := w.heap.size, off := 2 } (Value.string { data := #[] })).setCell { block := w.heap.size, off := 3 } (Value.slice none 0 0)) := 
      ((((KeepsOthers.setCell _ _ _).from _).trans ((KeepsOthers.setCell _ _ _).from _)).trans ((KeepsOthers.setCell _ _ _).from _)).trans ((KeepsOthers.setCell _ _ _).from _)
    have hB4 := g3 w.heap.size (Nat.le_refl _)
    generalize ((((W.setCell { block := w.heap.size, off := 0 } (Value.int IntKind.i64 0)).setCell { block := w.heap.size, off := 1 } (Value.int IntKind.i64 0)).setCell
          { block := w.heap.size, off := 2 } (Value.string { data := #[] })).setCell { block := w.heap.size, off := 3 } (Value.slice none 0 0)) = W4 at *
    refine ⟨hk4.trans ((KeepsOthers.setCell _ _ _).from _), hs4.trans (SameR.but HE4 (by decide) (fun k hk => Below.heap_setCell _ _ _ _ hk)), ⟨⟨⟨(Below.heap_setCell _ _ _ _ (by simp)).trans g1, trivial⟩, Boxed.set _ HE4⟩, ?_⟩⟩
    exact grown_mono hg (hB4.setCell (p := ⟨w.heap.size + 1, 0, none⟩) (by simp) _)
  case done =>
    rintro D ys W hD hF
    exact hF.elim
  case stop =>
    rintro D pre W hD _ ⟨⟨⟨hb, _⟩, he⟩, hg⟩ hRb hK
    clear hseq
    have HX := Lib.hid hb
    have HE := Lib.hid he
    have HK := Lib.hid hK
    clear hb he hK
    refine wpIn_wide.2 ?_
    go_wp2
    refine ⟨by simp, .inl ⟨_, _, rfl, run_takeDeferred HK.out, ?_⟩⟩
    have hDa : w.heap.size ≠ D := by omega
    have hDb : w.heap.size + 1 ≠ D := by omega
    have hx4 := (World.putObj_heap_other (w := W) (r := D) (o := .deferred none) hDa).trans HX.out
    have hx5 : Boxed (W.putObj D (.deferred none)) (w.heap.size + 1) 60 (.iface 134 (.pointer (some pe))) := (World.putObj_heap_other (w := W) (r := D) (o := .deferred none) hDb).trans HE.out
    have b0 := cell_in 0 hx4
    have b1 := cell_in 1 hx4
    have b2 := cell_in 2 hx4
    have b3 := cell_in 3 hx4
    have b5 := hx5.cell
    refine ⟨.tuple #[zeroR, .iface 134 (.pointer (some pe))], ?_, rfl, ?_, reader_put b h W D _ _ HK.out rfl hRb⟩
    · simp [results, Tryd.f31, go_sem, b0, b1, b2, b3, b5, zeroR]
    · exact grown_mono hg (belowK_b (w := w) (Nat.le_refl _) W D _ _ (by omega) HK.out rfl rfl)

end Go.Proofs.YtjcgfbmkgfhnaaaDoor
