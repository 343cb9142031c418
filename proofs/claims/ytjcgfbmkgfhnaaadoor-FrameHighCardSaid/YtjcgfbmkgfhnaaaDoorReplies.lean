/- A reader's reply with an error, whole. -/
import Derived.Test.YtjcgfbmkgfhnaaaDoorReply
namespace Go.Proofs.YtjcgfbmkgfhnaaaDoor
open Go.RowKit Go.Shelf
attribute [local go_sem] Oper.semAt_some

set_option maxRecDepth 100000 in
set_option maxHeartbeats 2000000 in
/-- A head's error is the reply's. -/
theorem reply_head_err {b : Nat} {h : Int} {pe : Addr} {W : World} (hb : b < W.heap.size)
    (HH : ∀ W0, Below W.heap.size W W0 → Calls Tryd.prog 29 #[.pointer (some ⟨b, 0, none⟩)] W0 fun e W' => HeadErr b (.iface 134 (.pointer (some pe))) W0 e W' ∧ ∃ t', Reader W' b t' h) :
    Calls Tryd.prog 23 #[.pointer (some ⟨b, 0, none⟩)] W (RepErr b h (.iface 134 (.pointer (some pe))) W) := by
  have hB0 : Below W.heap.size W (W.alloc (Obj.cells #[Value.int IntKind.i64 0, Value.int IntKind.i64 0, Value.string { data := #[] }, Value.slice none 0 0] 24)) := (Below.refl _ _).alloc (Nat.le_refl _) _
  have hZ : (W.alloc (Obj.cells #[Value.int IntKind.i64 0, Value.int IntKind.i64 0, Value.string { data := #[] }, Value.slice none 0 0] 24)).heap[W.heap.size]? = some (Obj.cells #[Value.int IntKind.i64 0, Value.int IntKind.i64 0, Value.string { data := #[] }, Value.slice none 0 0] 24 (0, 0)) := heap_at rfl
  have HL := Lib.hid (HH _ hB0)
  have hg0 : W.grownBy (W.alloc (Obj.cells #[Value.int IntKind.i64 0, Value.int IntKind.i64 0, Value.string { data := #[] }, Value.slice none 0 0] 24)) (some b) := grown_of_below hB0
  have he : ∀ W : World, (binOp .neq 60 (.iface 134 (.pointer (some pe))) .nilIface).run Tryd.prog W = .ok (.bool true) W := fun W => by simp [go_sem]
  clear HH hB0
  go_enter Tryd.func23, Tryd.ntmps23
  go_wp2_with fail
  refine HL.out.mono ?_
  rintro e w1 ⟨⟨rfl, hg⟩, t', hr⟩
  have hz1 := (hg.block _ (Array.getElem?_eq_some_iff.1 hZ).1 (by simp; omega)).trans hZ
  have e0 : w1.cell? ⟨W.heap.size, 0, none⟩ = some (.int .i64 0) := by rw [cell_in 0 hz1]; rfl
  have e1 : w1.cell? ⟨W.heap.size, 1, none⟩ = some (.int .i64 0) := by rw [cell_in 1 hz1]; rfl
  have e2 : w1.cell? ⟨W.heap.size, 2, none⟩ = some (.string ⟨#[]⟩) := by rw [cell_in 2 hz1]; rfl
  have e3 : w1.cell? ⟨W.heap.size, 3, none⟩ = some (.slice none 0 0) := by rw [cell_in 3 hz1]; rfl
  have f0 := free_in 0 hz1
  have f1 := free_in 1 hz1
  have f2 := free_in 2 hz1
  have f3 := free_in 3 hz1
  have hG := hg0.trans hg
  have HX := Lib.hid hz1
  have HR := Lib.hid hr
  clear hg hg0 hz1 hZ hr HL
  go_wp2
  obtain ⟨g1, g2, g3⟩ := four_set (.int .i64 0) (.int .i64 0) (.string ⟨#[]⟩) (.slice none 0 0) HX.out
  have hB4 := g3 W.heap.size (Nat.le_refl _)
  have hRr := (g2 b (by omega)).trans HR.out
  generalize ((((w1.setCell { block := W.heap.size, off := 0 } (Value.int IntKind.i64 0)).setCell { block := W.heap.size, off := 1 } (Value.int IntKind.i64 0)).setCell
          { block := W.heap.size, off := 2 } (Value.string { data := #[] })).setCell { block := W.heap.size, off := 3 } (Value.slice none 0 0)) = W4 at *
  have b0 := cell_in 0 g1
  have b1 := cell_in 1 g1
  have b2 := cell_in 2 g1
  have b3 := cell_in 3 g1
  refine ⟨rfl, .tuple #[zeroR, .iface 134 (.pointer (some pe))], ?_, rfl, grown_mono hG hB4, t', hRr⟩
  simp [results, Tryd.f23, go_sem, b0, b1, b2, b3, zeroR]

theorem as73c (u : Value) (W : World) : (Instr.typeAssert (.iface 73 u) 49 68 true).run Tryd.prog W = .ok (.tuple #[.string ⟨#[]⟩, .bool false]) W ∧ (Instr.typeAssert (.iface 73 u) 49 69 true).run Tryd.prog W = .ok (.tuple #[.string ⟨#[]⟩, .bool false]) W ∧
    (Instr.typeAssert (.iface 73 u) 49 70 true).run Tryd.prog W = .ok (.tuple #[.int .i64 0, .bool false]) W ∧ (Instr.typeAssert (.iface 73 u) 49 53 true).run Tryd.prog W = .ok (.tuple #[.int .i64 0, .bool false]) W ∧ (Instr.typeAssert (.iface 73 u) 49 73 true).run Tryd.prog W = .ok (.tuple #[u, .bool true]) W :=
  ⟨by kernel_rfl, by kernel_rfl, by kernel_rfl, by kernel_rfl, by kernel_rfl⟩

set_option maxRecDepth 100000 in
set_option maxHeartbeats 2000000 in
theorem reply_array {b : Nat} {q : List UInt8} {h : Int} {n : Int} {W : World} {er : Value} (hb : b < W.heap.size)
    (HH : ∀ W0, Below W.heap.size W W0 → Calls Tryd.prog 29 #[.pointer (some ⟨b, 0, none⟩)] W0 (HeadOk b (.iface 73 (.int .i64 n)) q h W0))
    (HA : ∀ W1, W.grownBy W1 (some b) → Reader W1 b ⟨q.toArray⟩ h → Calls Tryd.prog 31 #[.pointer (some ⟨b, 0, none⟩), .int .i64 n] W1 (RepErr b h er W1)) :
    Calls Tryd.prog 23 #[.pointer (some ⟨b, 0, none⟩)] W (RepErr b h er W) := by
  have hB0 : Below W.heap.size W (W.alloc (Obj.cells #[Value.int IntKind.i64 0, Value.int IntKind.i64 0, Value.string { data := #[] }, Value.slice none 0 0] 24)) := (Below.refl _ _).alloc (Nat.le_refl _) _
  have hZ : (W.alloc (Obj.cells #[Value.int IntKind.i64 0, Value.int IntKind.i64 0, Value.string { data := #[] }, Value.slice none 0 0] 24)).heap[W.heap.size]? = some (Obj.cells #[Value.int IntKind.i64 0, Value.int IntKind.i64 0, Value.string { data := #[] }, Value.slice none 0 0] 24 (0, 0)) := heap_at rfl
  have HL := Lib.hid (HH _ hB0)
  have hg0 : W.grownBy (W.alloc (Obj.cells #[Value.int IntKind.i64 0, Value.int IntKind.i64 0, Value.string { data := #[] }, Value.slice none 0 0] 24)) (some b) := grown_of_below hB0
  have HAA := Lib.hid HA
  have he : ∀ W : World, (binOp .neq 60 .nilIface .nilIface).run Tryd.prog W = .ok (.bool false) W := fun W => by simp [go_sem]
  clear HH HA hB0
  go_enter Tryd.func23, Tryd.ntmps23
  go_wp2_with fail
  refine HL.out.mono ?_
  rintro e w1 ⟨rfl, hg, hr⟩
  have hz1 := (hg.block _ (Array.getElem?_eq_some_iff.1 hZ).1 (by simp; omega)).trans hZ
  have HX := Lib.hid hz1
  have hG := hg0.trans hg
  have HC := Lib.hid (HAA.out _ hG hr)
  clear hZ hg0 hg hr HAA HL
  obtain ⟨a1, a2, a3, a4, a5⟩ : (∀ (u : Value) (W : World), (Instr.typeAssert (.iface 73 u) 49 68 true).run Tryd.prog W = .ok (.tuple #[.string ⟨#[]⟩, .bool false]) W) ∧ (∀ (u : Value) (W : World), (Instr.typeAssert (.iface 73 u) 49 69 true).run Tryd.prog W = .ok (.tuple #[.string ⟨#[]⟩, .bool false]) W) ∧
    (∀ (u : Value) (W : World), (Instr.typeAssert (.iface 73 u) 49 70 true).run Tryd.prog W = .ok (.tuple #[.int .i64 0, .bool false]) W) ∧ (∀ (u : Value) (W : World), (Instr.typeAssert (.iface 73 u) 49 53 true).run Tryd.prog W = .ok (.tuple #[.int .i64 0, .bool false]) W) ∧ (∀ (u : Value) (W : World), (Instr.typeAssert (.iface 73 u) 49 73 true).run Tryd.prog W = .ok (.tuple #[u, .bool true]) W) :=
    ⟨fun u W => (as73c u W).1, fun u W => (as73c u W).2.1, fun u W => (as73c u W).2.2.1, fun u W => (as73c u W).2.2.2.1, fun u W => (as73c u W).2.2.2.2⟩
  go_wp2_with fail
  refine HC.out.mono ?_
  rintro e w2 ⟨rfl, hg2, t', hr2⟩
  have hz2 := (hg2.block _ (Array.getElem?_eq_some_iff.1 HX.out).1 (by simp; omega)).trans HX.out
  have e0 : w2.cell? ⟨W.heap.size, 0, none⟩ = some (.int .i64 0) := by rw [cell_in 0 hz2]; rfl
  have e1 : w2.cell? ⟨W.heap.size, 1, none⟩ = some (.int .i64 0) := by rw [cell_in 1 hz2]; rfl
  have e2 : w2.cell? ⟨W.heap.size, 2, none⟩ = some (.string ⟨#[]⟩) := by rw [cell_in 2 hz2]; rfl
  have e3 : w2.cell? ⟨W.heap.size, 3, none⟩ = some (.slice none 0 0) := by rw [cell_in 3 hz2]; rfl
  have f0 := free_in 0 hz2
  have f1 := free_in 1 hz2
  have f2 := free_in 2 hz2
  have f3 := free_in 3 hz2
  have hG2 := hG.trans hg2
  have HX2 := Lib.hid hz2
  have HR := Lib.hid hr2
  clear hg2 hz2 hr2 HC a1 a2 a3 a4 a5
  unfold zeroR
  go_wp2
  obtain ⟨g1, g2, g3⟩ := four_set (.int .i64 0) (.int .i64 0) (.string ⟨#[]⟩) (.slice none 0 0) HX2.out
  have hB4 := g3 W.heap.size (Nat.le_refl _)
  have hRr := (g2 b (by omega)).trans HR.out
  generalize ((((w2.setCell { block := W.heap.size, off := 0 } (Value.int IntKind.i64 0)).setCell { block := W.heap.size, off := 1 } (Value.int IntKind.i64 0)).setCell
          { block := W.heap.size, off := 2 } (Value.string { data := #[] })).setCell { block := W.heap.size, off := 3 } (Value.slice none 0 0)) = W4 at *
  have b0 := cell_in 0 g1
  have b1 := cell_in 1 g1
  have b2 := cell_in 2 g1
  have b3 := cell_in 3 g1
  refine ⟨rfl, .tuple #[zeroR, er], ?_, rfl, grown_mono hG2 hB4, t', hRr⟩
  simp [results, Tryd.f23, go_sem, b0, b1, b2, b3, zeroR]

end Go.Proofs.YtjcgfbmkgfhnaaaDoor
