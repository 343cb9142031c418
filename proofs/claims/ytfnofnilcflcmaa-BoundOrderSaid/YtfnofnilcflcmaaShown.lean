/- What each law asks first: four known answers. -/
import Derived.Test.YtfnofnilcflcmaaParse
namespace Go.Proofs.Ytfnofnilcflcmaa
open Go.RowKit
attribute [local go_sem] Oper.semAt_some

def Cells3 (W : World) (b : Nat) (c0 c1 c2 : Value) : Prop := W.cell? ⟨b, 0, none⟩ = some c0 ∧ W.cell? ⟨b, 1, none⟩ = some c1 ∧ W.cell? ⟨b, 2, none⟩ = some c2
theorem Cells3.later {W W' : World} {b : Nat} {c0 c1 c2 : Value} (h : Cells3 W b c0 c1 c2) (hb : Below W.heap.size W W') : Cells3 W' b c0 c1 c2 :=
  ⟨(hb.cell (p := ⟨b, 0, none⟩) (World.block_lt_of_cell? W _ h.1)).trans h.1, (hb.cell (p := ⟨b, 1, none⟩) (World.block_lt_of_cell? W _ h.2.1)).trans h.2.1, (hb.cell (p := ⟨b, 2, none⟩) (World.block_lt_of_cell? W _ h.2.2)).trans h.2.2⟩
theorem Cells3.new (W : World) (c0 c1 c2 : Value) (t : TypeId) : Cells3 (W.alloc (.cells #[c0, c1, c2] t)) W.heap.size c0 c1 c2 := blk3 rfl (Below.refl _ _)
theorem Cells3.lt {W : World} {b : Nat} {c0 c1 c2 : Value} (h : Cells3 W b c0 c1 c2) : b < W.heap.size := World.block_lt_of_cell? W _ h.1
theorem below_new (w : World) (o : Obj) : Below w.heap.size w (w.alloc o) := (Below.refl _ _).alloc (Nat.le_refl _) o
theorem below_trans {a b c : World} (h : Below a.heap.size a b) (g : Below b.heap.size b c) : Below a.heap.size a c := h.trans (g.mono h.size)

theorem edge_a : edgeS ⟨#[91, 97]⟩ = .tuple #[.agg #[.string ⟨#[97]⟩, .bool false, .int .i64 0], .int .i64 0] := by
  have e1 : markS ⟨#[91, 97]⟩ = 91 := by decide +kernel
  have e2 : restS ⟨#[91, 97]⟩ = ⟨#[97]⟩ := by decide +kernel
  unfold edgeS
  rw [if_neg (by decide), if_neg (by decide), if_neg (by rw [e1]; decide), e1, e2]
  rfl
theorem edge_b : edgeS ⟨#[40, 98]⟩ = .tuple #[.agg #[.string ⟨#[98]⟩, .bool true, .int .i64 0], .int .i64 0] := by
  have e1 : markS ⟨#[40, 98]⟩ = 40 := by decide +kernel
  have e2 : restS ⟨#[40, 98]⟩ = ⟨#[98]⟩ := by decide +kernel
  unfold edgeS
  rw [if_neg (by decide), if_neg (by decide), if_neg (by rw [e1]; decide), e1, e2]
  rfl

set_option maxRecDepth 100000 in
set_option maxHeartbeats 4000000 in
theorem shown_any (w : World) : Calls Try.prog 11 #[] w fun e w' => e = .returned (.bool true) ∧ Below w.heap.size w w' := by
  have H1 := fun w => Lib.hid (bound_yes w)
  have G2 := fun w => parseEdge_any ⟨#[91, 97]⟩ (by decide) w
  have H3 := fun w => Lib.hid (bound_no w)
  have G4 := fun w => parseEdge_any ⟨#[40, 98]⟩ (by decide) w
  rw [edge_a] at G2
  rw [edge_b] at G4
  have H2 := fun w => Lib.hid (G2 w)
  clear G2
  have H4 := fun w => Lib.hid (G4 w)
  clear G4
  have G5 := fun w => in_any 5 5 0 true false 0 1 w
  rw [show inB 5 (scoreE 5 true 0) (scoreE 0 false 1) = false by rw [inB_eq]; decide] at G5
  have H5 := fun w => Lib.hid (G5 w)
  clear G5
  have G6 := fun w => inEdge_any ⟨#[97, 98]⟩ ⟨#[97]⟩ ⟨#[98]⟩ false true 0 0 w
  rw [show inEdgeB ⟨#[97, 98]⟩ (memberE ⟨#[97]⟩ false 0) (memberE ⟨#[98]⟩ true 0) = true by rw [inEdgeB_eq]; decide +kernel] at G6
  have H6 := fun w => Lib.hid (G6 w)
  clear G6
  go_enter Try.func11, Try.ntmps11
  go_wp2_with fail
  refine (H1 _).out.mono ?_
  rintro e w1 ⟨rfl, hb1⟩
  have hb := hb1
  clear hb1
  go_wp2_with fail
  have k1 := Cells3.new w1 (.int .i64 5) (.bool true) (.int .i64 0) 23
  have hx := below_new w1 (.cells #[.int .i64 5, .bool true, .int .i64 0] 23)
  replace hb := below_trans hb hx
  clear hx
  generalize w1.alloc (.cells #[.int .i64 5, .bool true, .int .i64 0] 23) = v1 at *
  refine (H2 _).out.mono ?_
  rintro e w2 ⟨rfl, hb2⟩
  replace hb := below_trans hb hb2
  replace k1 := k1.later hb2
  clear hb2
  go_wp2_with fail
  have k2 := Cells3.new w2 (.string ⟨#[97]⟩) (.bool false) (.int .i64 0) 33
  have hx := below_new w2 (.cells #[.string ⟨#[97]⟩, .bool false, .int .i64 0] 33)
  replace hb := below_trans hb hx
  replace k1 := k1.later hx
  clear hx
  generalize w2.alloc (.cells #[.string ⟨#[97]⟩, .bool false, .int .i64 0] 33) = v2 at *
  refine (H3 _).out.mono ?_
  rintro e w3 ⟨rfl, hb3⟩
  replace hb := below_trans hb hb3
  replace k1 := k1.later hb3
  replace k2 := k2.later hb3
  clear hb3
  go_wp2_with fail
  have k3 := Cells3.new w3 (.int .i64 0) (.bool false) (.int .i64 0) 23
  have hx := below_new w3 (.cells #[.int .i64 0, .bool false, .int .i64 0] 23)
  replace hb := below_trans hb hx
  replace k1 := k1.later hx
  replace k2 := k2.later hx
  clear hx
  generalize w3.alloc (.cells #[.int .i64 0, .bool false, .int .i64 0] 23) = v3 at *
  refine (H4 _).out.mono ?_
  rintro e w4 ⟨rfl, hb4⟩
  replace hb := below_trans hb hb4
  replace k1 := k1.later hb4
  replace k2 := k2.later hb4
  clear hb4 k3
  have l1 := k1.lt
  have l2 := k2.lt
  obtain ⟨a0, a1, a2⟩ := id k1
  obtain ⟨b0, b1, b2⟩ := id k2
  have k4 := Cells3.new w4 (.string ⟨#[98]⟩) (.bool true) (.int .i64 0) 33
  have hx := below_new w4 (.cells #[.string ⟨#[98]⟩, .bool true, .int .i64 0] 33)
  replace k2 := k2.later hx
  replace hb := below_trans hb hx
  have HX := Lib.hid hx
  clear hx
  go_wp2_with fail
  refine (H5 _).out.mono ?_
  rintro e w5 ⟨rfl, hb5⟩
  replace k2 := k2.later hb5
  replace k4 := k4.later hb5
  replace hb := below_trans hb hb5
  obtain ⟨a0, a1, a2⟩ := k2
  obtain ⟨b0, b1, b2⟩ := k4
  clear hb5
  go_wp2_with fail
  refine (H6 _).out.mono ?_
  rintro e w6 ⟨rfl, hb6⟩
  go_wp2_with fail
  go_ret
  exact ⟨rfl, below_trans hb hb6⟩
end Go.Proofs.Ytfnofnilcflcmaa
