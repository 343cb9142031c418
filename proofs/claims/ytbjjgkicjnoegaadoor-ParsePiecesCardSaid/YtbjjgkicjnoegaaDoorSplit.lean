/- A request is split off. -/
import Derived.Test.YtbjjgkicjnoegaaDoorArguments
import Derived.Test.YtbjjgkicjnoegaaDoorAs
namespace Go.Proofs.YtbjjgkicjnoegaaDoor
open Go.RowKit Go.Shelf

def SplitPost (b : Nat) (w : World) (g : Got (List (List UInt8))) (e : Ending) (w' : World) : Prop :=
  match g with
  | .ok ss r => ∃ v W1, e = .returned (.tuple #[v, .int .i64 0]) ∧ Below w.heap.size w W1 ∧ w' = W1.setCell ⟨b, 0, none⟩ (.string (ba r)) ∧ Owned w' w.heap.size v ss
  | .more => e = .returned (.tuple #[.slice none 0 0, .int .i64 31]) ∧ Below w.heap.size w w'
  | .wrong => e = .returned (.tuple #[.slice none 0 0, .int .i64 40]) ∧ Below w.heap.size w w'

theorem below_drewN {B : Nat} {a w : World} (h : Below B a w) (n : Nat) : Below B a (w.drewN n) := ⟨h.os, h.tape, h.output, h.size, h.block⟩
theorem below_of_new {w w2 : World} {o : Obj} (h : (w.alloc o).grownBy w2 (some w.heap.size)) : Below w.heap.size w w2 :=
  ((Below.refl w.heap.size w).alloc (Nat.le_refl _) o).grown h (by simp) (fun k e => by cases e; exact Nat.le_refl _)

set_option maxRecDepth 100000 in
set_option maxHeartbeats 4000000 in
theorem split_any {T : Nat → Int} (b : Nat) (t : ByteArray) (ht : t.size ≤ 9223372036854775807) (w : World) (hE : Env T w) (hc : w.cell? ⟨b, 0, none⟩ = some (.string t)) (hf : w.frozen? ⟨b, 0, none⟩ = false) :
    Calls Tryd.prog 21 #[.pointer (some ⟨b, 0, none⟩)] w (SplitPost b w (argumentsS T t.data.toList)) := by
  have hbl : b < w.heap.size := World.block_lt_of_cell? _ _ hc
  have HA := arguments_any (T := T) w.heap.size hE.size t ht (w.alloc (.cells #[.string t] 51)) (hE.alloc _) (heap_at rfl)
  have hE1 : Env T (w.alloc (.cells #[.string t] 51)) := hE.alloc _
  cases hg : argumentsS T t.data.toList with
  | more =>
    rw [hg] at HA
    have H1 := Lib.hid HA
    have HF := fun w2 (h : (w.alloc (.cells #[.string t] 51)).grownBy w2 (some w.heap.size)) => Lib.hid (as_fault 31 w2.heap.size (.int .i64 0) (w2.alloc (.cells #[.int .i64 0] 60)) ((hE1.grown h hE.size).alloc _).err (heap_at rfl))
    have HE := Lib.hid hE
    clear HA hg hE hE1
    go_enter Tryd.func21, Tryd.ntmps21
    go_wp2_with (go_at_call 23; refine H1.out.mono ?_; rintro e w2 ⟨rfl, hg2⟩; simp only [errV]; have HF2 := HF w2 hg2)
    refine HF2.out.mono ?_
    rintro e w3 ⟨rfl, hg3, hb3⟩
    have c3 := hb3.cell
    have hB := Lib.hid ((below_of_new hg2).trans ((below_of_new hg3).mono (below_of_new hg2).size))
    clear HF HF2 hg2 hg3 hb3 HE
    go_wp2
    go_quiet (fail)
    go_wp2
    go_ret2
    refine ⟨rfl, ?_⟩
    exact below_drewN hB.out _
  | wrong =>
    rw [hg] at HA
    have H1 := Lib.hid HA
    have HF := fun w2 (h : (w.alloc (.cells #[.string t] 51)).grownBy w2 (some w.heap.size)) => Lib.hid (as_fault 40 w2.heap.size (.int .i64 0) (w2.alloc (.cells #[.int .i64 0] 60)) ((hE1.grown h hE.size).alloc _).err (heap_at rfl))
    have HE := Lib.hid hE
    clear HA hg hE hE1
    go_enter Tryd.func21, Tryd.ntmps21
    go_wp2_with (go_at_call 23; refine H1.out.mono ?_; rintro e w2 ⟨rfl, hg2⟩; simp only [errV]; have HF2 := HF w2 hg2)
    refine HF2.out.mono ?_
    rintro e w3 ⟨rfl, hg3, hb3⟩
    have c3 := hb3.cell
    have hB := Lib.hid ((below_of_new hg2).trans ((below_of_new hg3).mono (below_of_new hg2).size))
    clear HF HF2 hg2 hg3 hb3 HE
    go_wp2
    go_quiet (fail)
    go_wp2
    go_ret2
    refine ⟨rfl, ?_⟩
    exact below_drewN hB.out _
  | ok ss r =>
    rw [hg] at HA
    have H1 := Lib.hid HA
    have HN := fun t w => Lib.hid (as_nil t w)
    clear HA hg hE hE1
    have CB := Lib.hid hc
    have FB := Lib.hid hf
    clear hc hf
    have hc := CB.out
    have hf := FB.out
    go_enter Tryd.func21, Tryd.ntmps21
    go_wp2_with (go_at_call 23; refine H1.out.mono ?_; rintro e w2 ⟨v, rfl, hg2, hbx, how⟩)
    have c2 := hbx.cell
    have hB := below_of_new hg2
    have hcb : w2.cell? ⟨b, 0, none⟩ = some (.string t) := (hB.cell (p := ⟨b, 0, none⟩) hbl).trans CB.out
    have hfb : w2.frozen? ⟨b, 0, none⟩ = false := (hB.frozen (p := ⟨b, 0, none⟩) hbl).trans FB.out
    have hlt2 : w.heap.size < w2.heap.size := hbx.lt
    refine (HN _ _).out.mono ?_
    rintro e w3 ⟨rfl, rfl⟩
    have hB3 : Below w.heap.size w (w2.alloc (Obj.cells #[Value.int IntKind.i64 0] 60)) := hB.alloc hB.size _
    have hcb3 := (Below.cell ((Below.refl w2.heap.size w2).alloc (Nat.le_refl _) (Obj.cells #[Value.int IntKind.i64 0] 60)) (p := ⟨b, 0, none⟩) (by show b < w2.heap.size; omega)).trans hcb
    have hfb3 := (Below.frozen ((Below.refl w2.heap.size w2).alloc (Nat.le_refl _) (Obj.cells #[Value.int IntKind.i64 0] 60)) (p := ⟨b, 0, none⟩) (by show b < w2.heap.size; omega)).trans hfb
    have c3 := (Below.cell ((Below.refl w2.heap.size w2).alloc (Nat.le_refl _) (Obj.cells #[Value.int IntKind.i64 0] 60)) (p := ⟨w.heap.size, 0, none⟩) hlt2).trans c2
    have how3 : Owned (w2.alloc (Obj.cells #[Value.int IntKind.i64 0] 60)) w.heap.size v ss := World.ownsRow.mono (World.ownsRow.alloc how _) (by simp)
    generalize w2.alloc (Obj.cells #[Value.int IntKind.i64 0] 60) = w4 at *
    have HO := Lib.hid how3
    have HBB := Lib.hid hB3
    clear hcb hfb c2 hc hf hg2 hbx how how3 hB hB3 HN
    go_wp2
    go_ret2
    exact ⟨v, w4, rfl, HBB.out, rfl, ownsRow_setCell_below HO.out (a := ⟨b, 0, none⟩) hbl _⟩

/-- What Split answers of a text. -/
def SplitV (t : ByteArray) (w : World) (g : Got (List (List UInt8))) (e : Ending) (w' : World) : Prop :=
  match g with
  | .ok ss r => ∃ v, e = .returned (.tuple #[v, .string (ba r), .int .i64 0]) ∧ Below w.heap.size w w' ∧ Owned w' w.heap.size v ss
  | .more => e = .returned (.tuple #[.slice none 0 0, .string t, .int .i64 31]) ∧ Below w.heap.size w w'
  | .wrong => e = .returned (.tuple #[.slice none 0 0, .string t, .int .i64 40]) ∧ Below w.heap.size w w'

set_option maxRecDepth 100000 in
set_option maxHeartbeats 2000000 in
theorem Split_any {T : Nat → Int} (t : ByteArray) (ht : t.size ≤ 9223372036854775807) (w : World) (hE : Env T w) : Calls Tryd.prog 11 #[.string t] w (SplitV t w (argumentsS T t.data.toList)) := by
  have hX : Box (w.alloc (.cells #[.string t] 51)) w.heap.size t := heap_at rfl
  have HS := split_any (T := T) w.heap.size t ht (w.alloc (.cells #[.string t] 51)) (hE.alloc _) hX.cell hX.free
  have hB0 : Below w.heap.size w (w.alloc (.cells #[.string t] 51)) := (Below.refl _ _).alloc (Nat.le_refl _) _
  have hXc := hX
  clear hX hE
  cases hg : argumentsS T t.data.toList with
  | more =>
    rw [hg] at HS
    have H1 := Lib.hid HS
    have HX := Lib.hid hXc
    clear HS hg hXc
    go_enter Tryd.func11, Tryd.ntmps11
    go_wp2_with (go_at_call 21; refine H1.out.mono ?_; rintro e w2 ⟨rfl, hb2⟩)
    have c2 := (HX.out.below hb2 HX.out.lt).cell
    go_quiet (fail)
    go_wp2
    go_ret3
    exact ⟨rfl, below_drewN (hB0.trans (hb2.mono (by simp))) _⟩
  | wrong =>
    rw [hg] at HS
    have H1 := Lib.hid HS
    have HX := Lib.hid hXc
    clear HS hg hXc
    go_enter Tryd.func11, Tryd.ntmps11
    go_wp2_with (go_at_call 21; refine H1.out.mono ?_; rintro e w2 ⟨rfl, hb2⟩)
    have c2 := (HX.out.below hb2 HX.out.lt).cell
    go_quiet (fail)
    go_wp2
    go_ret3
    exact ⟨rfl, below_drewN (hB0.trans (hb2.mono (by simp))) _⟩
  | ok ss r =>
    rw [hg] at HS
    have H1 := Lib.hid HS
    have HX := Lib.hid hXc
    clear HS hg hXc
    go_enter Tryd.func11, Tryd.ntmps11
    go_wp2_with (go_at_call 21; refine H1.out.mono ?_; rintro e w2 ⟨v, W1, rfl, hb2, rfl, how⟩)
    have hx1 : Box (W1.setCell ⟨w.heap.size, 0, none⟩ (.string (ba r))) w.heap.size (ba r) := box_set (HX.out.below hb2 HX.out.lt) _
    have c2 := hx1.cell
    have hB2 : Below w.heap.size w (W1.setCell ⟨w.heap.size, 0, none⟩ (.string (ba r))) := (hB0.trans (hb2.mono (by simp))).setCell (p := ⟨w.heap.size, 0, none⟩) (Nat.le_refl _) _
    generalize W1.setCell ⟨w.heap.size, 0, none⟩ (.string (ba r)) = W2 at *
    have HB := Lib.hid hB2
    have HO := Lib.hid how
    clear hx1 hB2 how hb2
    go_quiet (fail)
    go_wp2
    go_ret3
    exact ⟨v, rfl, below_drewN HB.out _, World.ownsRow.mono HO.out (by simp)⟩

end Go.Proofs.YtbjjgkicjnoegaaDoor
