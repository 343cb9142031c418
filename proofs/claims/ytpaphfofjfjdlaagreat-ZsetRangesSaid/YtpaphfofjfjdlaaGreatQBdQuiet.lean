/- A region that draws its order, whose operations only read what was there ahead of it, and whose callees only make memory: walked once. -/
import Derived.Test.YtpaphfofjfjdlaaGreatQBdIn
namespace Go.Proofs.YtpaphfofjfjdlaaGreat.Bd
open Go.RowKit

/-- A world in which all is as it was in w1, and more may lie. -/
structure Ext (w1 : World) where
  w : World
  ok : Below w1.heap.size w1 w
theorem Ext.cell {w1 : World} (x : Ext w1) {b o : Nat} {v : Value} (h : w1.cell? ⟨b, o, none⟩ = some v) : x.w.cell? ⟨b, o, none⟩ = some v :=
  (x.ok.cell (p := ⟨b, o, none⟩) (World.block_lt_of_cell? w1 ⟨b, o, none⟩ h)).trans h
theorem Ext.one (w1 : World) : Nonempty (Ext w1) := ⟨⟨w1, Below.refl _ _⟩⟩
theorem region_ext {P : Program} {id : Nat} {Q : Exit → Act → World → Prop} {a : Act} {w1 w : World} {l : List Oper} (hm : P.follows .mixedOrders = true) (hB : Region.lexB .any l.toArray = true) (hw : Below w1.heap.size w1 w)
    (h : wpQuiet P l.toArray (fun W => ∃ x : Ext w1, W = x.w) (fun a' => ∀ w', (∃ x : Ext w1, w' = x.w) → Q .normal a' w') l a) : (Code.region id l.toArray true).wp P Q a w := by
  exact wp_region_quiet (C := fun W => ∃ x : Ext w1, W = x.w) hm hB ⟨⟨w.drew, hw.drew⟩, rfl⟩ h
theorem Ext.call {P : Program} {f : FuncId} {args : Array Value} {w1 : World} (x : Ext w1) {v : Value} (h : Calls P f args x.w fun e w' => e = .returned v ∧ Below x.w.heap.size x.w w') :
    Calls P f args x.w fun e w'' => e = .returned v ∧ ∃ y : Ext w1, w'' = y.w :=
  h.mono fun _ w' ⟨he, hb⟩ => ⟨he, ⟨w', x.ok.trans (hb.mono x.ok.size)⟩, rfl⟩

abbrev Bd (n : Int) (out : Bool) (inf : Int) : Value := .agg #[.int .i64 n, .bool out, .int .i64 inf]
theorem blk3 {W W' : World} {c0 c1 c2 : Value} {t : TypeId} {b : Nat} (hb : W.heap.size = b) (h : Below (W.alloc (.cells #[c0, c1, c2] t)).heap.size (W.alloc (.cells #[c0, c1, c2] t)) W') :
    W'.cell? ⟨b, 0, none⟩ = some c0 ∧ W'.cell? ⟨b, 1, none⟩ = some c1 ∧ W'.cell? ⟨b, 2, none⟩ = some c2 := by
  subst hb
  refine ⟨?_, ?_, ?_⟩ <;> (rw [h.cell (p := ⟨_, _, none⟩) (by simp), World.cell?_alloc_new]; rfl)

set_option maxRecDepth 100000 in
set_option maxHeartbeats 2000000 in
theorem in_any (n a b : Int) (oa ob : Bool) (ia ib : Int) (w : World) : Calls Tryz.prog 43 #[.int .i64 n, .agg #[.int .i64 a, .bool oa, .int .i64 ia], .agg #[.int .i64 b, .bool ob, .int .i64 ib]] w fun e w' => e = .returned (.bool (inB n (scoreE a oa ia) (scoreE b ob ib))) ∧ Below w.heap.size w w' := by
  have H1 := fun n out inf w => Lib.hid (scoreEnd_any n out inf w)
  have H2 := fun w => Lib.hid (within_any (scoreE a oa ia) (scoreE b ob ib) ⟨#[]⟩ n w)
  obtain ⟨w1, hw1⟩ : ∃ w1, w1 = (w.alloc (.cells #[.int .i64 a, .bool oa, .int .i64 ia] 51)).alloc (.cells #[.int .i64 b, .bool ob, .int .i64 ib] 51) := ⟨_, rfl⟩
  have hA := blk3 (W := w) (W' := w1) (c0 := .int .i64 a) (c1 := .bool oa) (c2 := .int .i64 ia) (t := 51) rfl (by rw [hw1]; exact (Below.refl _ _).alloc (Nat.le_refl _) _)
  have hB := blk3 (W := w.alloc (.cells #[.int .i64 a, .bool oa, .int .i64 ia] 51)) (W' := w1) (c0 := .int .i64 b) (c1 := .bool ob) (c2 := .int .i64 ib) (t := 51) (b := w.heap.size + 1) (by simp) (by rw [hw1]; exact (Below.refl _ _))
  have hb1 : Below w.heap.size w w1 := by rw [hw1]; exact ((Below.refl _ _).alloc (Nat.le_refl _) _).alloc (by simp) _
  have HW := Lib.hid hw1
  clear hw1
  have qa0 := fun x : Ext w1 => x.cell hA.1
  have qa1 := fun x : Ext w1 => x.cell hA.2.1
  have qa2 := fun x : Ext w1 => x.cell hA.2.2
  have qb0 := fun x : Ext w1 => x.cell hB.1
  have qb1 := fun x : Ext w1 => x.cell hB.2.1
  have qb2 := fun x : Ext w1 => x.cell hB.2.2
  clear hA hB
  have hne := Ext.one w1
  go_enter Tryz.func43, Tryz.ntmps43
  go_wp2_with fail
  rw [← HW.out]
  refine region_ext (w1 := w1) (by kernel_rfl) (by kernel_rfl) (Below.refl _ _) ?_
  iterate 8 first
    | go_big_quiet_step ((first | (go_at_call 56; exact Ext.call _ (H1 _ _ _ _).out) | (go_at_call 55; exact Ext.call _ (H2 _).out)))
  refine wpQuiet_nil ?_
  rintro _ ⟨x, rfl⟩
  go_wp2_with fail
  go_ret
  exact ⟨rfl, hb1.trans (x.ok.mono hb1.size)⟩
set_option maxRecDepth 100000 in
set_option maxHeartbeats 2000000 in
theorem inEdge_any (n a b : ByteArray) (oa ob : Bool) (ia ib : Int) (w : World) : Calls Tryz.prog 47 #[.string n, .agg #[.string a, .bool oa, .int .i64 ia], .agg #[.string b, .bool ob, .int .i64 ib]] w fun e w' => e = .returned (.bool (inEdgeB n (memberE a oa ia) (memberE b ob ib))) ∧ Below w.heap.size w w' := by
  have H1 := fun n out inf w => Lib.hid (memberEnd_any n out inf w)
  have H2 := fun w => Lib.hid (within_any (memberE a oa ia) (memberE b ob ib) n 0 w)
  obtain ⟨w1, hw1⟩ : ∃ w1, w1 = (w.alloc (.cells #[.string a, .bool oa, .int .i64 ia] 53)).alloc (.cells #[.string b, .bool ob, .int .i64 ib] 53) := ⟨_, rfl⟩
  have hA := blk3 (W := w) (W' := w1) (c0 := .string a) (c1 := .bool oa) (c2 := .int .i64 ia) (t := 53) rfl (by rw [hw1]; exact (Below.refl _ _).alloc (Nat.le_refl _) _)
  have hB := blk3 (W := w.alloc (.cells #[.string a, .bool oa, .int .i64 ia] 53)) (W' := w1) (c0 := .string b) (c1 := .bool ob) (c2 := .int .i64 ib) (t := 53) (b := w.heap.size + 1) (by simp) (by rw [hw1]; exact (Below.refl _ _))
  have hb1 : Below w.heap.size w w1 := by rw [hw1]; exact ((Below.refl _ _).alloc (Nat.le_refl _) _).alloc (by simp) _
  have HW := Lib.hid hw1
  clear hw1
  have qa0 := fun x : Ext w1 => x.cell hA.1
  have qa1 := fun x : Ext w1 => x.cell hA.2.1
  have qa2 := fun x : Ext w1 => x.cell hA.2.2
  have qb0 := fun x : Ext w1 => x.cell hB.1
  have qb1 := fun x : Ext w1 => x.cell hB.2.1
  have qb2 := fun x : Ext w1 => x.cell hB.2.2
  clear hA hB
  have hne := Ext.one w1
  go_enter Tryz.func47, Tryz.ntmps47
  go_wp2_with fail
  rw [← HW.out]
  refine region_ext (w1 := w1) (by kernel_rfl) (by kernel_rfl) (Below.refl _ _) ?_
  iterate 8 first
    | go_big_quiet_step ((first | (go_at_call 58; exact Ext.call _ (H1 _ _ _ _).out) | (go_at_call 55; exact Ext.call _ (H2 _).out)))
  refine wpQuiet_nil ?_
  rintro _ ⟨x, rfl⟩
  go_wp2_with fail
  go_ret
  exact ⟨rfl, hb1.trans (x.ok.mono hb1.size)⟩
end Go.Proofs.YtpaphfofjfjdlaaGreat.Bd
