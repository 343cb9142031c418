/- The laws on what is decided: their walks. -/
import Derived.Test.YtnkgkimlmceciaaDecide
namespace Go.Proofs.Ytnkgkimlmceciaa
open Go.RowKit Go.Shelf
attribute [local go_sem] Oper.semAt_some

theorem decT_of {f : Fl} {is : Bool} {old n a d e : Int} (h : dec f is old n = (a, d, e)) : decT f is old n = .tuple #[.int .i64 a, .int .i64 d, .int .i64 e] := by unfold decT; rw [h]
theorem i64_small {a : Int} (h : -100 ≤ a ∧ a ≤ 100) : I64 a := ⟨by omega, by omega⟩
set_option maxRecDepth 100000 in
set_option maxHeartbeats 1000000 in
theorem shown_any (w : World) : Calls Try.prog 9 #[] w fun e w' => e = .returned (.bool true) ∧ Below w.heap.size w w' := by
  have H1 := fun w => Lib.hid (decide_any ⟨false, false, true, false, false, false⟩ true 5 3 (i64_small (by omega)) (i64_small (by omega)) w)
  have H2 := fun w => Lib.hid (decide_any ⟨false, true, false, false, false, false⟩ false 0 3 (i64_small (by omega)) (i64_small (by omega)) w)
  have H3 := fun w => Lib.hid (decide_any ⟨false, false, false, false, false, true⟩ true 2 3 (i64_small (by omega)) (i64_small (by omega)) w)
  have H4 := fun w => Lib.hid (decide_any ⟨true, true, false, false, false, false⟩ true 2 3 (i64_small (by omega)) (i64_small (by omega)) w)
  have e1 : decT ⟨false, false, true, false, false, false⟩ true 5 3 = .tuple #[.int .i64 5, .int .i64 0, .int .i64 0] := decT_of (by decide +kernel)
  have e2 : decT ⟨false, true, false, false, false, false⟩ false 0 3 = .tuple #[.int .i64 0, .int .i64 0, .int .i64 0] := decT_of (by decide +kernel)
  have e3 : decT ⟨false, false, false, false, false, true⟩ true 2 3 = .tuple #[.int .i64 5, .int .i64 2, .int .i64 0] := decT_of (by decide +kernel)
  have e4 : decT ⟨true, true, false, false, false, false⟩ true 2 3 = .tuple #[.int .i64 0, .int .i64 0, .int .i64 110] := decT_of (by decide +kernel)
  rw [e1] at H1
  rw [e2] at H2
  rw [e3] at H3
  rw [e4] at H4
  simp only [Fl.v, Fl.c] at H1 H2 H3 H4
  clear e1 e2 e3 e4
  go_enter Try.func9, Try.ntmps9
  go_wp2_with fail
  refine (H1 _).out.mono ?_
  rintro e w1 ⟨rfl, hb1⟩
  go_wp2_with fail
  refine (H2 _).out.mono ?_
  rintro e w2 ⟨rfl, hb2⟩
  go_wp2_with fail
  refine (H3 _).out.mono ?_
  rintro e w3 ⟨rfl, hb3⟩
  go_wp2_with fail
  refine (H4 _).out.mono ?_
  rintro e w4 ⟨rfl, hb4⟩
  go_wp2_with fail
  go_ret
  exact ⟨rfl, ((hb1.trans (hb2.mono hb1.size)).trans (hb3.mono (Nat.le_trans hb1.size hb2.size))).trans (hb4.mono (Nat.le_trans (Nat.le_trans hb1.size hb2.size) hb3.size))⟩

/-- A world in which all is as it was in w1, and more may lie. -/
structure Ext (w1 : World) where
  w : World
  ok : Below w1.heap.size w1 w
theorem Ext.cell {w1 : World} (x : Ext w1) {b o : Nat} {v : Value} (h : w1.cell? ⟨b, o, none⟩ = some v) : x.w.cell? ⟨b, o, none⟩ = some v :=
  (x.ok.cell (p := ⟨b, o, none⟩) (World.block_lt_of_cell? w1 ⟨b, o, none⟩ h)).trans h
theorem Ext.one (w1 : World) : Nonempty (Ext w1) := ⟨⟨w1, Below.refl _ _⟩⟩
theorem region_ext {P : Program} {id : Nat} {Q : Exit → Act → World → Prop} {a : Act} {w1 w : World} {l : List Oper} (hm : P.follows .mixedOrders = true) (hB : Region.lexB .any l.toArray = true) (hw : Below w1.heap.size w1 w)
    (h : wpQuiet P l.toArray (fun W => ∃ x : Ext w1, W = x.w) (fun a' => ∀ w', (∃ x : Ext w1, w' = x.w) → Q .normal a' w') l a) : (Code.region id l.toArray true).wp P Q a w := by
  exact wp_region_quiet (C := fun W => ∃ x : Ext w1, W = x.w) hm hB ⟨⟨w.drew, hw.drew⟩, rfl⟩ h
theorem Ext.call {P : Program} {f : FuncId} {args : Array Value} {w1 : World} (x : Ext w1) {v : Value} (h : Calls P f args x.w fun e w' => e = .returned v ∧ Below x.w.heap.size x.w w') :
    Calls P f args x.w fun e w'' => e = .returned v ∧ ∃ y : Ext w1, w'' = y.w :=
  h.mono fun _ w' ⟨he, hb⟩ => ⟨he, ⟨w', x.ok.trans (hb.mono x.ok.size)⟩, rfl⟩


theorem Blk.ext {w1 : World} {b : Nat} {t : TypeId} {c : Array Value} (h : Blk w1 b t c) (o : Nat) (v : Value) (hv : c[o]? = some v) : ∀ x : Ext w1, x.w.cell? ⟨b, o, none⟩ = some v := fun x => x.cell ((h.cell o).trans hv)

set_option maxRecDepth 100000 in
set_option maxHeartbeats 2000000 in
/-- FlagsDecide. -/
theorem decide_walk (f : Fl) (is : Bool) (old n : Int) (h1 : I64 old) (h2 : I64 n) (w : World) : Calls Try.prog 3 #[f.v, .bool is, .int .i64 old, .int .i64 n] w fun e w' => e = .returned (.bool true) ∧ Below w.heap.size w w' := by
  have HS := fun w => Lib.hid (shown_any w)
  have HA := fun w => Lib.hid (decide_any f is old n h1 h2 w)
  have HB := fun w => Lib.hid (refDecide_any f is old n h1 h2 w)
  have HR := fun w => Lib.hid (right_any f w)
  have HQ := fun w => Lib.hid (refRight_any f w)
  obtain ⟨a, d, c, hd⟩ : ∃ a d c, decT f is old n = .tuple #[.int .i64 a, .int .i64 d, .int .i64 c] := ⟨_, _, _, rfl⟩
  rw [hd] at HA HB
  generalize f.right = r at *
  obtain ⟨nx, xx, gt, lt, ch, inc⟩ := f
  simp only [Fl.v, Fl.c] at HA HB HR HQ ⊢
  clear hd h1 h2
  go_enter Try.func3, Try.ntmps3
  have k0 := Blk.new w 23 #[.bool nx, .bool xx, .bool gt, .bool lt, .bool ch, .bool inc]
  have b0 : Below w.heap.size w (w.alloc (.cells #[.bool nx, .bool xx, .bool gt, .bool lt, .bool ch, .bool inc] 23)) := (Below.refl _ _).alloc (Nat.le_refl _) _
  have K0 := Lib.hid k0
  have B0 := Lib.hid b0
  clear k0 b0
  go_wp2_with fail
  refine (HS _).out.mono ?_
  rintro e w1 ⟨rfl, hb1⟩
  have K1 := Lib.hid (K0.out.later hb1)
  have B1 := Lib.hid (B0.out.trans (hb1.mono B0.out.size))
  clear K0 B0 hb1
  have c0 := K1.out.cell 0
  have c1 := K1.out.cell 1
  have c2 := K1.out.cell 2
  have c3 := K1.out.cell 3
  have c4 := K1.out.cell 4
  have c5 := K1.out.cell 5
  simp at c0 c1 c2 c3 c4 c5
  go_wp2_with fail
  refine (HA _).out.mono ?_
  rintro e w2 ⟨rfl, hb2⟩
  have K2 := Lib.hid (K1.out.later hb2)
  have B2 := Lib.hid (B1.out.trans (hb2.mono B1.out.size))
  clear K1 B1 hb2 c0 c1 c2 c3 c4 c5
  have c0 := K2.out.cell 0
  have c1 := K2.out.cell 1
  have c2 := K2.out.cell 2
  have c3 := K2.out.cell 3
  have c4 := K2.out.cell 4
  have c5 := K2.out.cell 5
  simp at c0 c1 c2 c3 c4 c5
  go_wp2_with fail
  refine (HB _).out.mono ?_
  rintro e w3 ⟨rfl, hb3⟩
  have K3 := Lib.hid (K2.out.later hb3)
  have B3 := Lib.hid (B2.out.trans (hb3.mono B2.out.size))
  clear K2 B2 hb3 c0 c1 c2 c3 c4 c5
  have q0 := K3.out.ext 0 (.bool nx) rfl
  have q1 := K3.out.ext 1 (.bool xx) rfl
  have q2 := K3.out.ext 2 (.bool gt) rfl
  have q3 := K3.out.ext 3 (.bool lt) rfl
  have q4 := K3.out.ext 4 (.bool ch) rfl
  have q5 := K3.out.ext 5 (.bool inc) rfl
  have hne := Ext.one w3
  go_wp2_with fail
  refine region_ext (w1 := w3) (by kernel_rfl) (by kernel_rfl) (Below.refl _ _) ?_
  repeat go_big_quiet_step ((first | (go_at_call 12; exact Ext.call _ (HR _).out) | (go_at_call 13; exact Ext.call _ (HQ _).out)))
  refine wpQuiet_nil ?_
  rintro _ ⟨x, rfl⟩
  go_wp2_with fail
  go_ret
  exact ⟨by simp, B3.out.trans (x.ok.mono B3.out.size)⟩
end Go.Proofs.Ytnkgkimlmceciaa
