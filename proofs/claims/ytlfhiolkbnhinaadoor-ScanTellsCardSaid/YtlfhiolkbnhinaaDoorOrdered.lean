/- The lesser and the greater one of two tables; a table's digits. -/
import Derived.Test.YtlfhiolkbnhinaaDoorCursors
namespace Go.Proofs.YtlfhiolkbnhinaaDoor
open Go.RowKit Go.Shelf
attribute [local go_sem] Oper.semAt_some

def tabV (x : Nat × Nat) : Value := .agg #[.int .i64 x.1, .int .i64 x.2]
def tabC2 (x : Nat × Nat) : Array Value := #[.int .i64 x.1, .int .i64 x.2]
/-- The lesser table: its number, its size; the greater one. -/
def smallT (A B : Nat) : Nat × Nat := if B = 0 ∨ A ≤ B then (0, A) else (1, B)
def greatT (A B : Nat) : Nat × Nat := if B = 0 ∨ B < A then (0, A) else (1, B)

theorem set2 {W : World} {b : Nat} {t : TypeId} {x0 x1 : Value} (v0 v1 : Value) (h : Blk W b t #[x0, x1]) : Blk ((W.setCell ⟨b, 0, none⟩ v0).setCell ⟨b, 1, none⟩ v1) b t #[v0, v1] := (h.set 0 v0).set 1 v1
theorem set2_other {W : World} {b k : Nat} {t : TypeId} {c : Array Value} (v0 v1 : Value) (h : Blk W k t c) (hne : k ≠ b) : Blk ((W.setCell ⟨b, 0, none⟩ v0).setCell ⟨b, 1, none⟩ v1) k t c := (h.setOther 0 v0 hne).setOther 1 v1 hne
theorem set2_below {w W : World} {n b : Nat} (v0 v1 : Value) (h : Below n w W) (hn : n ≤ b) : Below n w ((W.setCell ⟨b, 0, none⟩ v0).setCell ⟨b, 1, none⟩ v1) := (h.setCell (p := ⟨b, 0, none⟩) hn v0).setCell (p := ⟨b, 1, none⟩) hn v1
def tabZ (A : Nat) (S : Nat × Nat) : Nat → Nat × Nat
  | 0 => (0, 0)
  | 1 => (0, A)
  | _ => S

set_option maxRecDepth 100000 in
set_option maxHeartbeats 4000000 in
theorem ordered_any (A B : Nat) (hA : A ≤ 65536) (hB : B ≤ 65536) (hAB : A = 0 → B = 0) (g : Nat) (w : World) (h : Blk w g 3 #[.int .i64 A, .int .i64 B]) :
    Calls Tryd.prog 37 #[.slice (some ⟨g, 0, none⟩) 2 2] w fun e w' => e = .returned (.tuple #[tabV (smallT A B), tabV (greatT A B)]) ∧ Below w.heap.size w w' := by
  have H := Lib.hid h
  clear h
  have hcs : (A = 0 ∧ B = 0 ∧ smallT A B = (0, A) ∧ greatT A B = (0, A)) ∨ (0 < A ∧ B = 0 ∧ smallT A B = (0, A) ∧ greatT A B = (0, A)) ∨ (0 < B ∧ B < A ∧ smallT A B = (1, B) ∧ greatT A B = (0, A)) ∨ (0 < A ∧ 0 < B ∧ A ≤ B ∧ smallT A B = (0, A) ∧ greatT A B = (1, B)) := by
    unfold smallT greatT
    by_cases h1 : B = 0
    · rw [if_pos (.inl h1), if_pos (.inl h1)]
      by_cases h2 : A = 0
      · exact .inl ⟨h2, h1, rfl, rfl⟩
      · exact .inr (.inl ⟨by omega, h1, rfl, rfl⟩)
    · by_cases h2 : A ≤ B
      · rw [if_pos (.inr h2), if_neg (by omega)]
        exact .inr (.inr (.inr ⟨by omega, by omega, h2, rfl, rfl⟩))
      · rw [if_neg (by omega), if_pos (.inr (by omega))]
        exact .inr (.inr (.inl ⟨by omega, by omega, rfl, rfl⟩))
  have HCS := Lib.hid hcs
  clear hcs
  generalize smallT A B = S at *
  generalize greatT A B = G at *
  obtain ⟨sa, sb⟩ := S
  obtain ⟨ga, gb⟩ := G
  unfold tabV
  simp only
  go_enter Tryd.func37, Tryd.ntmps37
  go_wp2
  obtain ⟨w1, hw1⟩ : ∃ w1, (((w.alloc (Obj.cells #[Value.int IntKind.i64 0, Value.int IntKind.i64 0] 76)).alloc (Obj.cells #[Value.int IntKind.i64 0, Value.int IntKind.i64 0] 76)).alloc (Obj.cells #[Value.int IntKind.i64 0, Value.int IntKind.i64 0] 76)).alloc (Obj.cells #[Value.int IntKind.i64 0, Value.int IntKind.i64 0] 76) = w1 := ⟨_, rfl⟩
  have kg : Blk w1 g 3 #[.int .i64 A, .int .i64 B] := by rw [← hw1]; exact (((H.out.alloc (Obj.cells #[Value.int IntKind.i64 0, Value.int IntKind.i64 0] 76)).alloc (Obj.cells #[Value.int IntKind.i64 0, Value.int IntKind.i64 0] 76)).alloc (Obj.cells #[Value.int IntKind.i64 0, Value.int IntKind.i64 0] 76)).alloc (Obj.cells #[Value.int IntKind.i64 0, Value.int IntKind.i64 0] 76)
  have k0 : Blk w1 w.heap.size 76 #[.int .i64 0, .int .i64 0] := by rw [← hw1]; exact (((Blk.new w 76 #[.int .i64 0, .int .i64 0]).alloc (Obj.cells #[Value.int IntKind.i64 0, Value.int IntKind.i64 0] 76)).alloc (Obj.cells #[Value.int IntKind.i64 0, Value.int IntKind.i64 0] 76)).alloc (Obj.cells #[Value.int IntKind.i64 0, Value.int IntKind.i64 0] 76)
  have k1 : Blk w1 (w.heap.size + 1) 76 #[.int .i64 0, .int .i64 0] := by
    have := ((Blk.new (w.alloc (Obj.cells #[Value.int IntKind.i64 0, Value.int IntKind.i64 0] 76)) 76 #[.int .i64 0, .int .i64 0]).alloc (Obj.cells #[Value.int IntKind.i64 0, Value.int IntKind.i64 0] 76)).alloc (Obj.cells #[Value.int IntKind.i64 0, Value.int IntKind.i64 0] 76)
    rw [hw1, World.size_alloc] at this
    exact this
  have k2 : Blk w1 (w.heap.size + 1 + 1) 76 #[.int .i64 0, .int .i64 0] := by
    have := (Blk.new ((w.alloc (Obj.cells #[Value.int IntKind.i64 0, Value.int IntKind.i64 0] 76)).alloc (Obj.cells #[Value.int IntKind.i64 0, Value.int IntKind.i64 0] 76)) 76 #[.int .i64 0, .int .i64 0]).alloc (Obj.cells #[Value.int IntKind.i64 0, Value.int IntKind.i64 0] 76)
    rw [hw1, World.size_alloc, World.size_alloc] at this
    exact this
  have k3 : Blk w1 (w.heap.size + 1 + 1 + 1) 76 #[.int .i64 0, .int .i64 0] := by
    have := Blk.new (((w.alloc (Obj.cells #[Value.int IntKind.i64 0, Value.int IntKind.i64 0] 76)).alloc (Obj.cells #[Value.int IntKind.i64 0, Value.int IntKind.i64 0] 76)).alloc (Obj.cells #[Value.int IntKind.i64 0, Value.int IntKind.i64 0] 76)) 76 #[.int .i64 0, .int .i64 0]
    rw [hw1, World.size_alloc, World.size_alloc, World.size_alloc] at this
    exact this
  have hb : Below w.heap.size w w1 := by rw [← hw1]; exact ((((Below.refl w.heap.size w).alloc (Nat.le_refl _) (Obj.cells #[Value.int IntKind.i64 0, Value.int IntKind.i64 0] 76)).alloc (by simp; try omega) (Obj.cells #[Value.int IntKind.i64 0, Value.int IntKind.i64 0] 76)).alloc (by simp; try omega) (Obj.cells #[Value.int IntKind.i64 0, Value.int IntKind.i64 0] 76)).alloc (by simp; try omega) (Obj.cells #[Value.int IntKind.i64 0, Value.int IntKind.i64 0] 76)
  have hgl : g < w.heap.size := H.out.lt
  rw [hw1]
  clear hw1 H
  have HR : Hid (∃ R : World → Prop, ∀ W, (Blk W g 3 #[.int .i64 A, .int .i64 B] ∧ Blk W w.heap.size 76 #[.int .i64 0, .int .i64 0] ∧ Blk W (w.heap.size + 1) 76 #[.int .i64 0, .int .i64 0] ∧ Below w.heap.size w W) ↔ R W) := Lib.hid ⟨_, fun _ => Iff.rfl⟩
  clear HR
  go_loopw [10] (fun iv wr => ∃ i : Nat, iv = .int .i64 i ∧ i ≤ 2 ∧ Blk wr g 3 #[.int .i64 A, .int .i64 B] ∧ Blk wr w.heap.size 76 #[.int .i64 0, .int .i64 0] ∧ Blk wr (w.heap.size + 1) 76 #[.int .i64 0, .int .i64 0] ∧ Below w.heap.size w wr ∧
      Blk wr (w.heap.size + 1 + 1) 76 (tabC2 (tabZ A (sa, sb) i)) ∧ Blk wr (w.heap.size + 1 + 1 + 1) 76 (tabC2 (tabZ A (ga, gb) i))) (fun iv _ => 2 - (intOf iv).toNat)
  case atStart => exact ⟨0, rfl, by omega, kg, k0, k1, hb, k2, k3⟩
  case round =>
    clear kg k0 k1 k2 k3 hb
    obtain ⟨i, rfl, hi, kg, k0, k1, hb, k2, k3⟩ := hrel
    have K0 := Lib.hid k0
    have K1 := Lib.hid k1
    have KG := Lib.hid kg
    have HB := Lib.hid hb
    clear k0 k1 kg hb
    obtain rfl | rfl | rfl : i = 0 ∨ i = 1 ∨ i = 2 := by omega
    · have c0 : wr.cell? ⟨g, 0, none⟩ = some (.int .i64 A) := KG.out.cell 0
      have c2 : wr.cell? ⟨w.heap.size + 1 + 1, 1, none⟩ = some (.int .i64 0) := k2.cell 1
      have c3 : wr.cell? ⟨w.heap.size + 1 + 1 + 1, 1, none⟩ = some (.int .i64 0) := k3.cell 1
      have K2 := Lib.hid k2
      have K3 := Lib.hid k3
      by_cases hA0 : A = 0
      · have hA0' : (A : Int) = 0 := by omega
        clear k2 k3
        go_wp2
        refine ⟨⟨1, rfl, by omega, KG.out, K0.out, K1.out, HB.out, ?_, ?_⟩, by simp [intOf]⟩
        · have := K2.out
          show Blk wr _ 76 #[.int .i64 0, .int .i64 A]
          rw [hA0']
          exact this
        · have := K3.out
          show Blk wr _ 76 #[.int .i64 0, .int .i64 A]
          rw [hA0']
          exact this
      · have hA0' : ¬ (A : Int) = 0 := by omega
        have c20 : wr.cell? ⟨w.heap.size + 1 + 1, 0, none⟩ = some (.int .i64 0) := k2.cell 0
        have c30 : wr.cell? ⟨w.heap.size + 1 + 1 + 1, 0, none⟩ = some (.int .i64 0) := k3.cell 0
        have f2 := k2.free 0
        have f3 := k3.free 0
        have f21 := k2.free 1
        have f31 := k3.free 1
        have hAp : (0 : Int) ≤ A := by omega
        clear k2 k3
        go_wp2
        refine ⟨⟨1, rfl, by omega, set2_other _ _ (set2_other _ _ KG.out (by omega)) (by omega), set2_other _ _ (set2_other _ _ K0.out (by omega)) (by omega), set2_other _ _ (set2_other _ _ K1.out (by omega)) (by omega), set2_below _ _ (set2_below _ _ HB.out (by omega)) (by omega), set2_other _ _ (set2 _ _ K2.out) (by omega), set2 _ _ (set2_other _ _ K3.out (by omega))⟩, by simp [intOf]⟩
    · have c0 : wr.cell? ⟨g, 1, none⟩ = some (.int .i64 B) := KG.out.cell 1
      have c2 : wr.cell? ⟨w.heap.size + 1 + 1, 1, none⟩ = some (.int .i64 A) := k2.cell 1
      have c3 : wr.cell? ⟨w.heap.size + 1 + 1 + 1, 1, none⟩ = some (.int .i64 A) := k3.cell 1
      have c20 : wr.cell? ⟨w.heap.size + 1 + 1, 0, none⟩ = some (.int .i64 0) := k2.cell 0
      have c30 : wr.cell? ⟨w.heap.size + 1 + 1 + 1, 0, none⟩ = some (.int .i64 0) := k3.cell 0
      have f2 := k2.free 0
      have f3 := k3.free 0
      have f21 := k2.free 1
      have f31 := k3.free 1
      have K2 := Lib.hid (show Blk wr (w.heap.size + 1 + 1) 76 #[.int .i64 0, .int .i64 A] from k2)
      have K3 := Lib.hid (show Blk wr (w.heap.size + 1 + 1 + 1) 76 #[.int .i64 0, .int .i64 A] from k3)
      clear k2 k3
      rcases HCS.out with ⟨q1, q2, e1, e2⟩ | ⟨q1, q2, e1, e2⟩ | ⟨q1, q2, e1, e2⟩ | ⟨q1, q2, q3, e1, e2⟩
      · have q2' : (B : Int) = 0 := by omega
        have E1 := Lib.hid e1
        have E2 := Lib.hid e2
        clear q1 q2 e1 e2
        go_wp2
        refine ⟨⟨2, rfl, by omega, KG.out, K0.out, K1.out, HB.out, ?_, ?_⟩, by simp [intOf]⟩
        · show Blk wr _ 76 (tabC2 (sa, sb)); rw [E1.out]; exact K2.out
        · show Blk wr _ 76 (tabC2 (ga, gb)); rw [E2.out]; exact K3.out
      · have q2' : (B : Int) = 0 := by omega
        have E1 := Lib.hid e1
        have E2 := Lib.hid e2
        clear q1 q2 e1 e2
        go_wp2
        refine ⟨⟨2, rfl, by omega, KG.out, K0.out, K1.out, HB.out, ?_, ?_⟩, by simp [intOf]⟩
        · show Blk wr _ 76 (tabC2 (sa, sb)); rw [E1.out]; exact K2.out
        · show Blk wr _ 76 (tabC2 (ga, gb)); rw [E2.out]; exact K3.out
      · have q1' : ¬ (B : Int) = 0 := by omega
        have q2' : (B : Int) < A := by omega
        have q3' : ¬ (A : Int) = 0 := by omega
        have q4' : ¬ (A : Int) ≤ B := by omega
        have E1 := Lib.hid e1
        have E2 := Lib.hid e2
        clear q1 q2 e1 e2
        go_wp2
        refine ⟨⟨2, rfl, by omega, set2_other _ _ KG.out (by omega), set2_other _ _ K0.out (by omega), set2_other _ _ K1.out (by omega), set2_below _ _ HB.out (by omega), ?_, ?_⟩, by simp [intOf]⟩
        · show Blk _ _ 76 (tabC2 (sa, sb)); rw [E1.out]; exact set2 _ _ K2.out
        · show Blk _ _ 76 (tabC2 (ga, gb)); rw [E2.out]; exact set2_other _ _ K3.out (by omega)
      · have q1' : ¬ (B : Int) = 0 := by omega
        have q2' : ¬ (B : Int) < A := by omega
        have q3' : ¬ (A : Int) = 0 := by omega
        have q4' : (A : Int) ≤ B := by omega
        have E1 := Lib.hid e1
        have E2 := Lib.hid e2
        clear q1 q2 q3 e1 e2
        go_wp2
        refine ⟨⟨2, rfl, by omega, set2_other _ _ KG.out (by omega), set2_other _ _ K0.out (by omega), set2_other _ _ K1.out (by omega), set2_below _ _ HB.out (by omega), ?_, ?_⟩, by simp [intOf]⟩
        · show Blk _ _ 76 (tabC2 (sa, sb)); rw [E1.out]; exact set2_other _ _ K2.out (by omega)
        · show Blk _ _ 76 (tabC2 (ga, gb)); rw [E2.out]; exact set2 _ _ K3.out
    · have k2' : Blk wr (w.heap.size + 1 + 1) 76 #[.int .i64 sa, .int .i64 sb] := k2
      have k3' : Blk wr (w.heap.size + 1 + 1 + 1) 76 #[.int .i64 ga, .int .i64 gb] := k3
      have hb2 := Lib.hid (fun (a b c d : Value) => set2_below a b (set2_below c d HB.out (show w.heap.size ≤ w.heap.size from Nat.le_refl _)) (show w.heap.size ≤ w.heap.size + 1 by omega))
      clear k2 k3 HCS
      have c0 := K0.out.cell 0
      have c1 := K0.out.cell 1
      have d0 := K1.out.cell 0
      have d1 := K1.out.cell 1
      have s0 := k2'.cell 0
      have s1 := k2'.cell 1
      have g0 := k3'.cell 0
      have g1 := k3'.cell 1
      have f0 := K0.out.free 0
      have f1 := K0.out.free 1
      have f2 := K1.out.free 0
      have f3 := K1.out.free 1
      simp at c0 c1 d0 d1 s0 s1 g0 g1
      clear k2' k3'
      go_wp2
      go_region
      go_wp2
      have kR0 := (set2_other (.int .i64 ga) (.int .i64 gb) (set2 (.int .i64 sa) (.int .i64 sb) K0.out) (show w.heap.size ≠ w.heap.size + 1 by omega)).drew
      have kR1 := (set2 (.int .i64 ga) (.int .i64 gb) (set2_other (.int .i64 sa) (.int .i64 sb) K1.out (show w.heap.size + 1 ≠ w.heap.size by omega))).drew
      have hbR := (hb2.out (.int .i64 ga) (.int .i64 gb) (.int .i64 sa) (.int .i64 sb)).drew
      generalize ((((wr.setCell { block := w.heap.size, off := 0 } (Value.int IntKind.i64 ↑sa)).setCell { block := w.heap.size, off := 1 } (Value.int IntKind.i64 ↑sb)).setCell { block := w.heap.size + 1, off := 0 } (Value.int IntKind.i64 ↑ga)).setCell { block := w.heap.size + 1, off := 1 } (Value.int IntKind.i64 ↑gb)).drew = wz at *
      have r0 := kR0.cell 0
      have r1 := kR0.cell 1
      have r2 := kR1.cell 0
      have r3 := kR1.cell 1
      simp at r0 r1 r2 r3
      clear c0 c1 d0 d1 s0 s1 g0 g1 f0 f1 f2 f3 hb2
      refine bodyPost_ret (v := .tuple #[.agg #[.int .i64 sa, .int .i64 sb], .agg #[.int .i64 ga, .int .i64 gb]]) (w := wz) (by simp [results, Tryd.results37, go_sem, r0, r1, r2, r3]) rfl ?_
      exact ⟨rfl, hbR⟩

theorem digits_any (x : Nat × Nat) (h0 : 0 < x.2) (h1 : x.2 ≤ 65536) (w : World) : Calls Tryd.prog 39 #[tabV x] w fun e w' => e = .returned (.int .u32 (x.2 - 1 : Nat)) ∧ Below w.heap.size w w' := by
  obtain ⟨a, s⟩ := x
  unfold tabV
  simp only at h0 h1 ⊢
  have h2 : ((s - 1 : Nat) : Int) = (s : Int) - 1 := by omega
  have hb := (Below.refl w.heap.size w).alloc (Nat.le_refl _) (Obj.cells #[.int .i64 a, .int .i64 s] 76)
  rw [h2]
  go_enter Tryd.func39, Tryd.ntmps39
  go_wp2
  go_ret
  exact ⟨rfl, hb⟩
end Go.Proofs.YtlfhiolkbnhinaaDoor
