/- What a search asks: of places, of entries. -/
import Derived.Test.YtidiaomeahoapaaDown
import Derived.Lib.MinMaxS
import Derived.BigQuiet
namespace Go.Proofs.Ytidiaomeahoapaa
open Go.RowKit Go.Shelf
attribute [local go_sem] Oper.semAt_some

/-- A world in which all is as it was in w1, and more may lie. -/
structure Ext (w1 : World) where
  w : World
  ok : Below w1.heap.size w1 w
theorem Ext.cell {w1 : World} (x : Ext w1) {b o : Nat} {v : Value} (h : w1.cell? ⟨b, o, none⟩ = some v) : x.w.cell? ⟨b, o, none⟩ = some v :=
  (x.ok.cell (p := ⟨b, o, none⟩) (World.block_lt_of_cell? w1 ⟨b, o, none⟩ h)).trans h
theorem Ext.one (w1 : World) : Nonempty (Ext w1) := ⟨⟨w1, Below.refl _ _⟩⟩
theorem region_ext {P : Program} {id : Nat} {Q : Exit → Act → World → Prop} {a : Act} {w1 w : World} {l : List Oper} (hm : P.follows .mixedOrders = true) (hB : Region.lexB .any l.toArray = true) (hw : Below w1.heap.size w1 w)
    (h : wpQuiet P l.toArray (fun W => ∃ x : Ext w1, W = x.w) (fun a' => ∀ w', (∃ x : Ext w1, w' = x.w) → Q .normal a' w') l a) : (Code.region id l.toArray true).wp P Q a w := by
  exact wp_region_quiet (C := fun W => ∃ x : Ext w1, W = x.w) hm hB ⟨⟨w.drew, hw.drew⟩, rfl⟩ h
theorem Ext.call {P : Program} {f : FuncId} {args : Array Value} {w1 : World} (x : Ext w1) {v : Value} (h : Calls P f args x.w fun e w' => e = .returned v ∧ Below x.w.heap.size x.w w') :
    Calls P f args x.w fun e w'' => e = .returned v ∧ ∃ y : Ext w1, w'' = y.w :=
  h.mono fun _ w' ⟨he, hb⟩ => ⟨he, ⟨w', x.ok.trans (hb.mono x.ok.size)⟩, rfl⟩

theorem facts2 {W : World} {b : Nat} {t : TypeId} {c0 c1 : Value} (h : Blk W b t #[c0, c1]) : W.cell? ⟨b, 0, none⟩ = some c0 ∧ W.cell? ⟨b, 1, none⟩ = some c1 ∧ W.frozen? ⟨b, 0, none⟩ = false ∧ W.frozen? ⟨b, 1, none⟩ = false :=
  ⟨h.cell 0, h.cell 1, h.free 0, h.free 1⟩
/-- Is an entry ahead of another one? -/
def lessE (m : ByteArray) (s : Int) (m' : ByteArray) (s' : Int) : Bool := decide (s < s' ∨ s = s' ∧ m.data.toList < m'.data.toList)
theorem bl_eq (a b : ByteArray) : Op.bytesLess a.toList b.toList = decide (a.data.toList < b.data.toList) := by
  rw [Lib.toList_data, Lib.toList_data, bytesLess_eq]

set_option maxRecDepth 100000 in
theorem less_any (m m' : ByteArray) (s s' : Int) (w : World) : Calls Try.prog 49 #[.agg #[.string m, .int .i64 s], .agg #[.string m', .int .i64 s']] w fun e w' => e = .returned (.bool (lessE m s m' s')) ∧ Below w.heap.size w w' := by
  have hb : Below w.heap.size w ((w.alloc (.cells #[.string m, .int .i64 s] 32)).alloc (.cells #[.string m', .int .i64 s'] 32)) := ((Below.refl _ _).alloc (Nat.le_refl _) _).alloc (by simp) _
  have HB := Lib.hid hb
  clear hb
  by_cases h : s = s'
  · have e1 : (s == s') = true := by simpa using h
    have e2 : (s != s') = false := by simpa using h
    have H := Lib.hid h
    clear h
    go_enter Try.func49, Try.ntmps49
    go_wp2
    go_ret
    refine ⟨congrArg (fun b => Ending.returned (.bool b)) ?_, HB.out⟩
    rw [bl_eq]
    have := H.out
    subst this
    simp [lessE]
  · have e1 : (s == s') = false := by simpa using h
    have e2 : (s != s') = true := by simpa using h
    go_enter Try.func49, Try.ntmps49
    go_wp2
    go_ret
    refine ⟨congrArg (fun b => Ending.returned (.bool b)) ?_, HB.out⟩
    simp [lessE, h]

variable {w : World} {F : List Nd} {ah : Nat → Value} {n : Int}
set_option maxRecDepth 100000 in
theorem asks_place (c : Nat) (place : Int) (hc : Blk w c 3 #[.int .i64 place]) (a : Nat) (ha : ∀ q, 0 < q → q < F.length → (((q : Int) - 1 < place) ↔ q ≤ a)) : Asks w F a 47 #[.pointer (some ⟨c, 0, none⟩)] := by
  refine ⟨enters_of Try.func47 (by kernel_rfl) rfl, fun k q W hk h0 hq hb => ?_⟩
  have k1 := hc.later hb
  obtain ⟨e0, e1⟩ := facts1 k1
  have z1 := k1.lt
  obtain ⟨x, hx⟩ : ∃ x, F[q]? = some x := ⟨_, List.getElem?_eq_getElem hq⟩
  have hax := adr_some hx
  have hqa := Lib.hid (ha q h0 hq)
  unfold stp
  rw [hax]
  clear hc ha h0 hq hb k1 hx hax
  go_enter Try.func47, Try.ntmps47
  go_wp2
  go_ret
  refine ⟨congrArg (fun b => Ending.returned (.bool b)) ?_, (Below.refl _ _).alloc (Nat.le_refl _) _⟩
  rw [decide_eq_decide]
  exact hqa.out
set_option maxRecDepth 100000 in
set_option maxHeartbeats 2000000 in
theorem asks_entry (c : Nat) (m : ByteArray) (s : Int) (hc : Blk w c 32 #[.string m, .int .i64 s]) (hw : Sk w F (lk0 F) ah n) (a : Nat) (ha : ∀ q x, 0 < q → F[q]? = some x → lessE x.m x.s m s = decide (q ≤ a)) : Asks w F a 48 #[.pointer (some ⟨c, 0, none⟩)] := by
  refine ⟨enters_of Try.func48 (by kernel_rfl) rfl, fun k q W hk h0 hq hb => ?_⟩
  have k1 := hc.later hb
  have hS := hw.later hb
  obtain ⟨x, hx⟩ : ∃ x, F[q]? = some x := ⟨_, List.getElem?_eq_getElem hq⟩
  obtain ⟨A, hA, hN⟩ := hS.node q x hx
  have hax := adr_some hx
  have hqa := Lib.hid (ha q x h0 hx)
  unfold stp
  rw [hax]
  have HL := fun w => Lib.hid (less_any x.m m x.s s w)
  obtain ⟨w1, hw1⟩ : ∃ w1, w1 = W.alloc (.cells #[.pointer (some ⟨x.b, 0, none⟩), .int .i64 ((q : Int) - 1), .int .i64 k] 69) := ⟨_, rfl⟩
  have hb1 : Below W.heap.size W w1 := by rw [hw1]; exact (Below.refl _ _).alloc (Nat.le_refl _) _
  have kB : Blk w1 W.heap.size 69 #[.pointer (some ⟨x.b, 0, none⟩), .int .i64 ((q : Int) - 1), .int .i64 k] := by rw [hw1]; exact Blk.new _ _ _
  have q0 := fun y : Ext w1 => y.cell (facts3 kB).1
  have q1 := fun y : Ext w1 => y.cell ((hA.later hb1).cell 0 |>.trans hN.m)
  have q2 := fun y : Ext w1 => y.cell ((hA.later hb1).cell 1 |>.trans hN.s)
  have q3 := fun y : Ext w1 => y.cell (facts2 (k1.later hb1)).1
  have q4 := fun y : Ext w1 => y.cell (facts2 (k1.later hb1)).2.1
  have HW := Lib.hid hw1
  have HB1 := Lib.hid hb1
  have hne := Ext.one w1
  clear hc hw ha h0 hq hb k1 hS hx hA hN hax hw1 hb1 kB
  go_enter Try.func48, Try.ntmps48
  go_wp2_with fail
  rw [← HW.out]
  refine region_ext (w1 := w1) (by kernel_rfl) (by kernel_rfl) (Below.refl _ _) ?_
  iterate 8 go_big_quiet_step ((go_at_call 49; exact Ext.call _ (HL _).out))
  refine wpQuiet_nil ?_
  rintro _ ⟨y, rfl⟩
  go_wp2_with fail
  go_ret
  refine ⟨?_, HB1.out.trans (y.ok.mono HB1.out.size)⟩
  rw [← hqa.out]
  rfl
end Go.Proofs.Ytidiaomeahoapaa
