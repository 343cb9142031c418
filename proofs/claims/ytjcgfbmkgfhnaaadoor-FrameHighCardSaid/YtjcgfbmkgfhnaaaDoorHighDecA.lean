/- Decode, by what its reply is. -/
import Derived.Test.YtjcgfbmkgfhnaaaDoorHighRep
namespace Go.Proofs.YtjcgfbmkgfhnaaaDoor
open Go.RowKit Go.Shelf
attribute [local go_sem] Oper.semAt_some

set_option maxRecDepth 100000 in
set_option maxHeartbeats 2000000 in
theorem decode_err {W : World} {aM aW : Addr} {m : Int} (t : ByteArray) (hE : Env W aM aW m) (h3 : 3 ≤ W.heap.size)
    (HRR : ∀ (b : Nat) (W0 : World), Env W0 aM aW m → 3 ≤ b → aM.block ≠ b → aW.block ≠ b → Reader W0 b t 0 → Calls Tryd.prog 23 #[.pointer (some ⟨b, 0, none⟩)] W0 (RepErr b 0 (.iface 134 (.pointer (some aW))) W0)) :
    Calls Tryd.prog 11 #[.string t] W fun e W' => e = .returned (.tuple #[zeroR, .string t, .int .i64 30]) ∧ Below W.heap.size W W' := by
  have hZ0 : (W.alloc (Obj.cells #[Value.int IntKind.i64 0, Value.int IntKind.i64 0, Value.string { data := #[] }, Value.slice none 0 0] 24)).heap[W.heap.size]? = some (Obj.cells #[Value.int IntKind.i64 0, Value.int IntKind.i64 0, Value.string { data := #[] }, Value.slice none 0 0] 24 (0, 0)) := heap_at rfl
  have hB0 : Below W.heap.size W ((W.alloc (Obj.cells #[Value.int IntKind.i64 0, Value.int IntKind.i64 0, Value.string { data := #[] }, Value.slice none 0 0] 24)).alloc (Obj.cells #[Value.string t, .int .i64 0] 58)) := ((Below.refl _ _).alloc (Nat.le_refl _) _).alloc (by simp) _
  have hE0 := hE.below hB0
  have hM : aM.block ≠ W.heap.size + 1 := by obtain ⟨_, _, r⟩ := hE.rowM; have := (Array.getElem?_eq_some_iff.1 r).1; omega
  have hW : aW.block ≠ W.heap.size + 1 := by obtain ⟨_, _, r⟩ := hE.rowW; have := (Array.getElem?_eq_some_iff.1 r).1; omega
  have hZ : ((W.alloc (Obj.cells #[Value.int IntKind.i64 0, Value.int IntKind.i64 0, Value.string { data := #[] }, Value.slice none 0 0] 24)).alloc (Obj.cells #[Value.string t, .int .i64 0] 58)).heap[W.heap.size]? = some (Obj.cells #[Value.int IntKind.i64 0, Value.int IntKind.i64 0, Value.string { data := #[] }, Value.slice none 0 0] 24 (0, 0)) := (Below.heap_alloc _ _ _ (by simp)).trans hZ0
  have hR0 : Reader ((W.alloc (Obj.cells #[Value.int IntKind.i64 0, Value.int IntKind.i64 0, Value.string { data := #[] }, Value.slice none 0 0] 24)).alloc (Obj.cells #[Value.string t, .int .i64 0] 58)) (W.heap.size + 1) t 0 := heap_at (by simp)
  have HR := Lib.hid (HRR (W.heap.size + 1) _ hE0 (by omega) hM hW hR0)
  clear hR0 hZ0 HRR
  go_enter Tryd.func11, Tryd.ntmps11
  go_wp2_with fail
  refine HR.out.mono ?_
  rintro e w1 ⟨rfl, hg, t', hr⟩
  have hE1 := hE0.grown hg (by omega) hM hW
  have hz1 := (hg.block _ (Array.getElem?_eq_some_iff.1 hZ).1 (by simp)).trans hZ
  have hBB : Below W.heap.size W w1 := below_but hB0 hg (by omega)
  have hB2 := (Below.refl w1.heap.size w1).alloc (Nat.le_refl _) (Obj.cells #[Value.int IntKind.i64 0, Value.int IntKind.i64 0, Value.string { data := #[] }, Value.slice none 0 0] 24)
  have hE2 := hE1.below hB2
  have hz2 := (hB2.block _ (Array.getElem?_eq_some_iff.1 hz1).1).trans hz1
  have hBB2 := hBB.trans (hB2.mono hBB.size)
  have hn2 : (w1.alloc (Obj.cells #[Value.int IntKind.i64 0, Value.int IntKind.i64 0, Value.string { data := #[] }, Value.slice none 0 0] 24)).heap[w1.heap.size]? = some (Obj.cells #[Value.int IntKind.i64 0, Value.int IntKind.i64 0, Value.string { data := #[] }, Value.slice none 0 0] 24 (0, 0)) := heap_at rfl
  obtain ⟨_, _, rM⟩ := hE2.rowM
  obtain ⟨_, _, rW⟩ := hE2.rowW
  have gM := hE2.more
  have gW := hE2.wrong
  have e0 := (cell_in 0 hz2).trans (show _ = some (.int .i64 0) from rfl)
  have e1 := (cell_in 1 hz2).trans (show _ = some (.int .i64 0) from rfl)
  have e2 := (cell_in 2 hz2).trans (show _ = some (.string ⟨#[]⟩) from rfl)
  have e3 := (cell_in 3 hz2).trans (show _ = some (.slice none 0 0) from rfl)
  have f0 := free_in 0 hz2
  have f1 := free_in 1 hz2
  have f2 := free_in 2 hz2
  have f3 := free_in 3 hz2
  have hne := hE1.ne
  have HZ := Lib.hid hz2
  have HB := Lib.hid hBB2
  have S1 := fun w => Lib.hid (is_same aM w)
  have S2 := fun w => Lib.hid (is_same aW w)
  have S3 := Lib.hid (is_other aW aM _ _ _ _ _ hne.symm rW rM)
  clear hE0 hE1 hE2 hM hW hZ hB0 hB2 hg hz1 hz2 hBB hBB2 rM rW HR hr hE hne hn2
  unfold zeroR
  go_wp2_with fail
  refine S3.out.mono ?_
  rintro e w' ⟨rfl, rfl⟩
  go_wp2_with fail
  refine (S2 _).out.mono ?_
  rintro e w' ⟨rfl, rfl⟩
  go_wp2
  obtain ⟨g1, g2, g3⟩ := four_set (.int .i64 0) (.int .i64 0) (.string ⟨#[]⟩) (.slice none 0 0) HZ.out
  have hB4 := HB.out.trans (g3 W.heap.size (Nat.le_refl _))
  generalize (((((w1.alloc (Obj.cells #[Value.int IntKind.i64 0, Value.int IntKind.i64 0, Value.string { data := #[] }, Value.slice none 0 0] 24)).setCell { block := W.heap.size, off := 0 } (Value.int IntKind.i64 0)).setCell { block := W.heap.size, off := 1 } (Value.int IntKind.i64 0)).setCell
          { block := W.heap.size, off := 2 } (Value.string { data := #[] })).setCell { block := W.heap.size, off := 3 } (Value.slice none 0 0)) = W4 at *
  have b0 := cell_in 0 g1
  have b1 := cell_in 1 g1
  have b2 := cell_in 2 g1
  have b3 := cell_in 3 g1
  refine ⟨rfl, .tuple #[zeroR, .string t, .int .i64 30], ?_, rfl, hB4⟩
  simp [results, Tryd.f11, go_sem, b0, b1, b2, b3, zeroR]


set_option maxRecDepth 100000 in
set_option maxHeartbeats 2000000 in
theorem decode_ok {W : World} {aM aW : Addr} {m : Int} (t q : ByteArray) (hE : Env W aM aW m) (h3 : 3 ≤ W.heap.size)
    (HRR : ∀ (b : Nat) (W0 : World), Env W0 aM aW m → 3 ≤ b → aM.block ≠ b → aW.block ≠ b → Reader W0 b t 0 → Calls Tryd.prog 23 #[.pointer (some ⟨b, 0, none⟩)] W0 (RepOk b q 0 W0)) :
    Calls Tryd.prog 11 #[.string t] W fun e W' => (∃ x : R4, e = .returned (.tuple #[x.val, .string q, .int .i64 0])) ∧ Below W.heap.size W W' := by
  have hZ0 : (W.alloc (Obj.cells #[Value.int IntKind.i64 0, Value.int IntKind.i64 0, Value.string { data := #[] }, Value.slice none 0 0] 24)).heap[W.heap.size]? = some (Obj.cells #[Value.int IntKind.i64 0, Value.int IntKind.i64 0, Value.string { data := #[] }, Value.slice none 0 0] 24 (0, 0)) := heap_at rfl
  have hB0 : Below W.heap.size W ((W.alloc (Obj.cells #[Value.int IntKind.i64 0, Value.int IntKind.i64 0, Value.string { data := #[] }, Value.slice none 0 0] 24)).alloc (Obj.cells #[Value.string t, .int .i64 0] 58)) := ((Below.refl _ _).alloc (Nat.le_refl _) _).alloc (by simp) _
  have hE0 := hE.below hB0
  have hM : aM.block ≠ W.heap.size + 1 := by obtain ⟨_, _, r⟩ := hE.rowM; have := (Array.getElem?_eq_some_iff.1 r).1; omega
  have hW : aW.block ≠ W.heap.size + 1 := by obtain ⟨_, _, r⟩ := hE.rowW; have := (Array.getElem?_eq_some_iff.1 r).1; omega
  have hZ : ((W.alloc (Obj.cells #[Value.int IntKind.i64 0, Value.int IntKind.i64 0, Value.string { data := #[] }, Value.slice none 0 0] 24)).alloc (Obj.cells #[Value.string t, .int .i64 0] 58)).heap[W.heap.size]? = some (Obj.cells #[Value.int IntKind.i64 0, Value.int IntKind.i64 0, Value.string { data := #[] }, Value.slice none 0 0] 24 (0, 0)) := (Below.heap_alloc _ _ _ (by simp)).trans hZ0
  have hR0 : Reader ((W.alloc (Obj.cells #[Value.int IntKind.i64 0, Value.int IntKind.i64 0, Value.string { data := #[] }, Value.slice none 0 0] 24)).alloc (Obj.cells #[Value.string t, .int .i64 0] 58)) (W.heap.size + 1) t 0 := heap_at (by simp)
  have HR := Lib.hid (HRR (W.heap.size + 1) _ hE0 (by omega) hM hW hR0)
  clear hR0 hZ0 HRR
  go_enter Tryd.func11, Tryd.ntmps11
  go_wp2_with fail
  refine HR.out.mono ?_
  rintro e w1 ⟨x, rfl, hg, hr⟩
  have hE1 := hE0.grown hg (by omega) hM hW
  have hz1 := (hg.block _ (Array.getElem?_eq_some_iff.1 hZ).1 (by simp)).trans hZ
  have hBB : Below W.heap.size W w1 := below_but hB0 hg (by omega)
  have hB2 := (Below.refl w1.heap.size w1).alloc (Nat.le_refl _) (Obj.cells #[Value.int IntKind.i64 x.k, Value.int IntKind.i64 x.n, Value.string x.s, Value.slice x.a x.len x.cap] 24)
  have hE2 := hE1.below hB2
  have hz2 := (hB2.block _ (Array.getElem?_eq_some_iff.1 hz1).1).trans hz1
  have hr2 := Reader.later hr hB2
  have hBB2 := hBB.trans (hB2.mono hBB.size)
  have hn2 : (w1.alloc (Obj.cells #[Value.int IntKind.i64 x.k, Value.int IntKind.i64 x.n, Value.string x.s, Value.slice x.a x.len x.cap] 24)).heap[w1.heap.size]? = some (Obj.cells #[Value.int IntKind.i64 x.k, Value.int IntKind.i64 x.n, Value.string x.s, Value.slice x.a x.len x.cap] 24 (0, 0)) := heap_at rfl
  have gM := hE2.more
  have gW := hE2.wrong
  have t0 : (w1.alloc (Obj.cells #[Value.int IntKind.i64 x.k, Value.int IntKind.i64 x.n, Value.string x.s, Value.slice x.a x.len x.cap] 24)).cell? ⟨W.heap.size + 1, 0, none⟩ = some (.string q) := by rw [cell_in 0 hr2]; rfl
  have r0 := (cell_in 0 hn2).trans (show _ = some (.int .i64 x.k) from rfl)
  have r1 := (cell_in 1 hn2).trans (show _ = some (.int .i64 x.n) from rfl)
  have r2 := (cell_in 2 hn2).trans (show _ = some (.string x.s) from rfl)
  have r3 := (cell_in 3 hn2).trans (show _ = some (.slice x.a x.len x.cap) from rfl)
  have e0 := (cell_in 0 hz2).trans (show _ = some (.int .i64 0) from rfl)
  have e1 := (cell_in 1 hz2).trans (show _ = some (.int .i64 0) from rfl)
  have e2 := (cell_in 2 hz2).trans (show _ = some (.string ⟨#[]⟩) from rfl)
  have e3 := (cell_in 3 hz2).trans (show _ = some (.slice none 0 0) from rfl)
  have f0 := free_in 0 hz2
  have f1 := free_in 1 hz2
  have f2 := free_in 2 hz2
  have f3 := free_in 3 hz2
  have HZ := Lib.hid hz2
  have HB := Lib.hid hBB2
  have S1 := fun w => Lib.hid (is_nil aM w)
  have S2 := fun w => Lib.hid (is_nil aW w)
  clear hE0 hE1 hE2 hM hW hZ hB0 hB2 hg hz1 hz2 hBB hBB2 HR hr hr2 hE hn2
  unfold R4.val
  go_wp2_with fail
  refine (S1 _).out.mono ?_
  rintro e w' ⟨rfl, rfl⟩
  go_wp2_with fail
  refine (S2 _).out.mono ?_
  rintro e w' ⟨rfl, rfl⟩
  clear S1 S2
  go_wp2_with fail
  go_region
  all_goals (
    go_wp2
    obtain ⟨g1, g2, g3⟩ := four_set (.int .i64 x.k) (.int .i64 x.n) (.string x.s) (.slice x.a x.len x.cap) HZ.out
    have hB4 := HB.out.trans (g3 W.heap.size (Nat.le_refl _))
    generalize (((((w1.alloc (Obj.cells #[Value.int IntKind.i64 x.k, Value.int IntKind.i64 x.n, Value.string x.s, Value.slice x.a x.len x.cap] 24)).setCell { block := W.heap.size, off := 0 } (Value.int IntKind.i64 x.k)).setCell { block := W.heap.size, off := 1 } (Value.int IntKind.i64 x.n)).setCell
            { block := W.heap.size, off := 2 } (Value.string x.s)).setCell { block := W.heap.size, off := 3 } (Value.slice x.a x.len x.cap)) = W4 at *
    have b0 := cell_in 0 g1
    have b1 := cell_in 1 g1
    have b2 := cell_in 2 g1
    have b3 := cell_in 3 g1
    refine ⟨rfl, .tuple #[x.val, .string q, .int .i64 0], ?_, ⟨x, rfl⟩, hB4.drew⟩
    simp [results, Tryd.f11, go_sem, b0, b1, b2, b3, R4.val])
end Go.Proofs.YtjcgfbmkgfhnaaaDoor
