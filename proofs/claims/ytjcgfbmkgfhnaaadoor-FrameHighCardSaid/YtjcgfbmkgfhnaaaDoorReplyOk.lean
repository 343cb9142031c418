/- A reader's reply, where it has one: a number, or an array of one reply. -/
import Derived.Test.YtjcgfbmkgfhnaaaDoorReplies
import Derived.Test.YtjcgfbmkgfhnaaaDoorMake
import Derived.Test.YtjcgfbmkgfhnaaaDoorRangeUpto
namespace Go.Proofs.YtjcgfbmkgfhnaaaDoor
open Go.RowKit Go.Shelf
attribute [local go_sem] Oper.semAt_some

/-- A reply, whatever it says. -/
structure R4 where
  k : Int
  n : Int
  s : ByteArray
  a : Option Addr
  len : Nat
  cap : Nat
def R4.val (x : R4) : Value := .agg #[.int .i64 x.k, .int .i64 x.n, .string x.s, .slice x.a x.len x.cap]

/-- A reply and no error; the rest of the text. -/
def RepOk (b : Nat) (q : ByteArray) (h : Int) (W : World) (e : Ending) (W' : World) : Prop := ∃ x : R4, e = .returned (.tuple #[x.val, .nilIface]) ∧ W.grownBy W' (some b) ∧ Reader W' b q h

set_option maxRecDepth 100000 in
set_option maxHeartbeats 2000000 in
theorem replies_one (b B1 B2 : Nat) (t q : ByteArray) (h : Int) (hh : 0 ≤ h) (hh2 : h ≤ 1000) (w : World) (hR : Reader w b t h) (h1 : Boxed w B1 74 (.pointer (some ⟨b, 0, none⟩))) (h2 : Boxed w B2 3 (.int .i64 1))
    (HC : ∀ W, w.grownBy W (some b) → Reader W b t (h + 1) → Calls Tryd.prog 23 #[.pointer (some ⟨b, 0, none⟩)] W (RepOk b q (h + 1) W)) :
    SeqC (fun pre : List R4 => pre = []) Tryd.prog 44 #[.pointer (some ⟨B1, 0, none⟩), .pointer (some ⟨B2, 0, none⟩)] (fun x : R4 => #[x.val, .nilIface]) (fun _ => True) SameR (fun xs => xs ≠ []) (fun _ => True) (fun W' => Reader W' b q h) b w := by
  intro l J Jx W hW hJ hJx hY h0
  have hb1 : B1 ≠ b := fun e => by subst e; have := (show w.heap[B1]? = _ from h1).symm.trans hR; simp at this
  have hb2 : B2 ≠ b := fun e => by subst e; have := (show w.heap[B2]? = _ from h2).symm.trans hR; simp at this
  have hRW := Reader.later hR hW
  have b1W := (boxed_later h1 hW).cell
  have b2W := (boxed_later h2 hW).cell
  have r1 : W.cell? ⟨b, 1, none⟩ = some (.int .i64 h) := by rw [cell_in 1 hRW]; rfl
  have f1 := free_in 1 hRW
  obtain ⟨W1, hW1⟩ : ∃ W1, W.setCell ⟨b, 1, none⟩ (.int .i64 (h + 1)) = W1 := ⟨_, rfl⟩
  have hg1 : W.grownBy W1 (some b) := by rw [← hW1]; exact grown_set _ _ _ _
  have hR1 : Reader W1 b t (h + 1) := by rw [← hW1]; exact set_in 1 (.int .i64 (h + 1)) hRW
  have hj1 := hJ _ _ _ h0 hg1
  have hB1W1 : Boxed W1 B1 74 (.pointer (some ⟨b, 0, none⟩)) := (boxed_later h1 hW).kept hg1 (by simp [hb1])
  have hB2W1 : Boxed W1 B2 3 (.int .i64 1) := (boxed_later h2 hW).kept hg1 (by simp [hb2])
  have c1 := hB1W1.cell
  have c2 := hB2W1.cell
  have hgw : w.grownBy W1 (some b) := (grown_of_below hW).trans hg1
  have HCC := Lib.hid (HC W1 hgw hR1)
  refine callsIn_of_wp Tryd.func44 rfl trivial ?_ rfl
  simp only [Tryd.ntmps44, List.size_toArray, List.length_cons, List.length_nil, Nat.reduceAdd, Nat.reduceSub, Array.replicate_succ, Array.replicate_zero, List.push_toArray, List.append_toArray, List.nil_append, List.cons_append]
  gi_wp2
  refine wpIn_loop_rounds 2 ?_
  rw [roundsIn_succ]
  gi_wp2_with fail
  refine ⟨trivial, ?_⟩
  refine callsIn_wide.2 (Calls.mono HCC.out ?_)
  rintro e W2 ⟨x, rfl, hg2, hR2⟩
  have hj2 := hJ _ _ _ hj1 hg2
  have hB1W2 : Boxed W2 B1 74 (.pointer (some ⟨b, 0, none⟩)) := hB1W1.kept hg2 (by simp [hb1])
  obtain ⟨fn, tmps, assign, body, hy, hRd⟩ := hY [] x W2 rfl hj2
  unfold R4.val
  unfold R4.val at hy
  gi_wp2_with fail
  (try refine ⟨fun _ => by decide, ?_⟩)
  refine hRd.mono ?_
  rintro e W3 (⟨rfl, _, hx3, hk3⟩ | ⟨rfl, hx3, hk3⟩)
  · have hR3 : Reader W3 b q (h + 1) := hk3 _ _ _ (.inl rfl) hR2
    have hB13 : Boxed W3 B1 74 (.pointer (some ⟨b, 0, none⟩)) := hk3 _ _ _ (.inr (.inl rfl)) hB1W2
    have c13 := hB13.cell
    have r13 : W3.cell? ⟨b, 1, none⟩ = some (.int .i64 (h + 1)) := by rw [cell_in 1 hR3]; rfl
    have f13 := free_in 1 hR3
    gi_wp2
    rw [roundsIn_succ]
    gi_wp2
    go_end0
    exact ⟨⟨_, rfl⟩, set_in 1 (.int .i64 h) hR3, Or.inl ⟨_, by simp, hJ _ _ _ hx3 (grown_set _ _ _ _)⟩⟩
  · have hR3 : Reader W3 b q (h + 1) := hk3 _ _ _ (.inl rfl) hR2
    have hB13 : Boxed W3 B1 74 (.pointer (some ⟨b, 0, none⟩)) := hk3 _ _ _ (.inr (.inl rfl)) hB1W2
    have c13 := hB13.cell
    have r13 : W3.cell? ⟨b, 1, none⟩ = some (.int .i64 (h + 1)) := by rw [cell_in 1 hR3]; rfl
    have f13 := free_in 1 hR3
    gi_wp2
    go_end0
    exact ⟨⟨_, rfl⟩, set_in 1 (.int .i64 h) hR3, .inr ⟨_, trivial, hJx _ _ _ hx3 (grown_set _ _ _ _)⟩⟩

theorem as70c (u : Value) (W : World) : (Instr.typeAssert (.iface 70 u) 49 68 true).run Tryd.prog W = .ok (.tuple #[.string ⟨#[]⟩, .bool false]) W ∧ (Instr.typeAssert (.iface 70 u) 49 69 true).run Tryd.prog W = .ok (.tuple #[.string ⟨#[]⟩, .bool false]) W ∧
    (Instr.typeAssert (.iface 70 u) 49 70 true).run Tryd.prog W = .ok (.tuple #[u, .bool true]) W := ⟨by kernel_rfl, by kernel_rfl, by kernel_rfl⟩

set_option maxRecDepth 100000 in
set_option maxHeartbeats 2000000 in
/-- A number. -/
theorem reply_number {b : Nat} {q : List UInt8} {h : Int} {n : Int} {W : World} (hb : b < W.heap.size)
    (HH : ∀ W0, Below W.heap.size W W0 → Calls Tryd.prog 29 #[.pointer (some ⟨b, 0, none⟩)] W0 (HeadOk b (.iface 70 (.int .i64 n)) q h W0)) :
    Calls Tryd.prog 23 #[.pointer (some ⟨b, 0, none⟩)] W (RepOk b ⟨q.toArray⟩ h W) := by
  have hB0 : Below W.heap.size W (W.alloc (Obj.cells #[Value.int IntKind.i64 0, Value.int IntKind.i64 0, Value.string { data := #[] }, Value.slice none 0 0] 24)) := (Below.refl _ _).alloc (Nat.le_refl _) _
  have hZ : (W.alloc (Obj.cells #[Value.int IntKind.i64 0, Value.int IntKind.i64 0, Value.string { data := #[] }, Value.slice none 0 0] 24)).heap[W.heap.size]? = some (Obj.cells #[Value.int IntKind.i64 0, Value.int IntKind.i64 0, Value.string { data := #[] }, Value.slice none 0 0] 24 (0, 0)) := heap_at rfl
  have HL := Lib.hid (HH _ hB0)
  have hg0 : W.grownBy (W.alloc (Obj.cells #[Value.int IntKind.i64 0, Value.int IntKind.i64 0, Value.string { data := #[] }, Value.slice none 0 0] 24)) (some b) := grown_of_below hB0
  have he : ∀ W : World, (binOp .neq 60 .nilIface .nilIface).run Tryd.prog W = .ok (.bool false) W := fun W => by simp [go_sem]
  have HI := fun w => Lib.hid (mk_int n w)
  clear HH hB0
  go_enter Tryd.func23, Tryd.ntmps23
  go_wp2_with fail
  refine HL.out.mono ?_
  rintro e w1 ⟨rfl, hg, hr⟩
  have hz1 := (hg.block _ (Array.getElem?_eq_some_iff.1 hZ).1 (by simp; omega)).trans hZ
  have HX := Lib.hid hz1
  have hG := hg0.trans hg
  have HR0 := Lib.hid hr
  clear hZ hg0 hg hr HL hz1
  obtain ⟨a1, a2, a3⟩ : (∀ (u : Value) (W : World), (Instr.typeAssert (.iface 70 u) 49 68 true).run Tryd.prog W = .ok (.tuple #[.string ⟨#[]⟩, .bool false]) W) ∧ (∀ (u : Value) (W : World), (Instr.typeAssert (.iface 70 u) 49 69 true).run Tryd.prog W = .ok (.tuple #[.string ⟨#[]⟩, .bool false]) W) ∧
    (∀ (u : Value) (W : World), (Instr.typeAssert (.iface 70 u) 49 70 true).run Tryd.prog W = .ok (.tuple #[u, .bool true]) W) := ⟨fun u W => (as70c u W).1, fun u W => (as70c u W).2.1, fun u W => (as70c u W).2.2⟩
  go_wp2_with fail
  refine (HI _).out.mono ?_
  rintro e w2 ⟨rfl, hb2⟩
  have hz2 := (hb2.block _ (Array.getElem?_eq_some_iff.1 HX.out).1).trans HX.out
  have e0 : w2.cell? ⟨W.heap.size, 0, none⟩ = some (.int .i64 0) := by rw [cell_in 0 hz2]; rfl
  have e1 : w2.cell? ⟨W.heap.size, 1, none⟩ = some (.int .i64 0) := by rw [cell_in 1 hz2]; rfl
  have e2 : w2.cell? ⟨W.heap.size, 2, none⟩ = some (.string ⟨#[]⟩) := by rw [cell_in 2 hz2]; rfl
  have e3 : w2.cell? ⟨W.heap.size, 3, none⟩ = some (.slice none 0 0) := by rw [cell_in 3 hz2]; rfl
  have f0 := free_in 0 hz2
  have f1 := free_in 1 hz2
  have f2 := free_in 2 hz2
  have f3 := free_in 3 hz2
  have hG2 := hG.trans (grown_of_below (row := some b) hb2)
  have HX2 := Lib.hid hz2
  have HR := Lib.hid (Reader.later HR0.out hb2)
  clear hb2 hz2 HI a1 a2 a3
  go_wp2
  obtain ⟨g1, g2, g3⟩ := four_set (.int .i64 3) (.int .i64 n) (.string ⟨#[]⟩) (.slice none 0 0) HX2.out
  have hB4 := g3 W.heap.size (Nat.le_refl _)
  have hRr := (g2 b (by omega)).trans HR.out
  generalize ((((w2.setCell { block := W.heap.size, off := 0 } (Value.int IntKind.i64 3)).setCell { block := W.heap.size, off := 1 } (Value.int IntKind.i64 n)).setCell
          { block := W.heap.size, off := 2 } (Value.string { data := #[] })).setCell { block := W.heap.size, off := 3 } (Value.slice none 0 0)) = W4 at *
  have b0 := cell_in 0 g1
  have b1 := cell_in 1 g1
  have b2 := cell_in 2 g1
  have b3 := cell_in 3 g1
  refine ⟨rfl, .tuple #[.agg #[.int .i64 3, .int .i64 n, .string ⟨#[]⟩, .slice none 0 0], .nilIface], ?_, ⟨3, n, ⟨#[]⟩, none, 0, 0⟩, rfl, grown_mono hG2 hB4, hRr⟩
  simp [results, Tryd.f23, go_sem, b0, b1, b2, b3]

end Go.Proofs.YtjcgfbmkgfhnaaaDoor
