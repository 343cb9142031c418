/- Decode, of two texts that are no reply. -/
import Derived.Test.YtjcgfbmkgfhnaaaDoorReplies
import Derived.Test.YtjcgfbmkgfhnaaaDoorErr
namespace Go.Proofs.YtjcgfbmkgfhnaaaDoor
open Go.RowKit Go.Shelf
attribute [local go_sem] Oper.semAt_some

def tMore : ByteArray := ⟨#[42, 50, 13, 10, 58, 55]⟩
def tWrong : ByteArray := ⟨#[63]⟩

theorem Env.below {W W' : World} {aM aW : Addr} {m : Int} (hE : Env W aM aW m) (hb : Below W.heap.size W W') : Env W' aM aW m := by
  obtain ⟨c1, t1, r1⟩ := hE.rowM
  obtain ⟨c2, t2, r2⟩ := hE.rowW
  have cell : ∀ {a : Addr} {v : Value}, W.cell? a = some v → W'.cell? a = some v := fun {a v} h => (grown_of_below (row := none) hb).cell h (by simp)
  exact ⟨cell hE.more, cell hE.wrong, cell hE.max, hE.ne, ⟨c1, t1, (hb.block _ (Array.getElem?_eq_some_iff.1 r1).1).trans r1⟩, ⟨c2, t2, (hb.block _ (Array.getElem?_eq_some_iff.1 r2).1).trans r2⟩⟩

theorem reply_wrong {W : World} {aM aW : Addr} {m : Int} (hE : Env W aM aW m) (b : Nat) (hR : Reader W b tWrong 0) :
    Calls Tryd.prog 23 #[.pointer (some ⟨b, 0, none⟩)] W (RepErr b 0 (.iface 134 (.pointer (some aW))) W) := by
  refine reply_head_err (Array.getElem?_eq_some_iff.1 hR).1 fun W0 hb0 => ?_
  exact head_wrong (hE.below hb0) b tWrong 0 (Reader.later hR hb0) 63 [] rfl (by decide)

theorem reply_inner {W : World} {aM aW : Addr} {m : Int} (hE : Env W aM aW m) (b : Nat) (h : Int) (hR : Reader W b ⟨#[58, 55]⟩ h) :
    Calls Tryd.prog 23 #[.pointer (some ⟨b, 0, none⟩)] W (RepErr b h (.iface 134 (.pointer (some aM))) W) := by
  refine reply_head_err (Array.getElem?_eq_some_iff.1 hR).1 fun W0 hb0 => ?_
  exact head_more (hE.below hb0) b ⟨#[58, 55]⟩ h (Reader.later hR hb0) 58 [55] rfl (by decide) [58, 55] [] (by decide) (by decide)

theorem reply_more {W : World} {aM aW : Addr} {m : Int} (hE : Env W aM aW m) (b : Nat) (hb3 : 3 ≤ b) (hM : aM.block ≠ b) (hW : aW.block ≠ b) (hR : Reader W b tMore 0) :
    Calls Tryd.prog 23 #[.pointer (some ⟨b, 0, none⟩)] W (RepErr b 0 (.iface 134 (.pointer (some aM))) W) := by
  refine reply_array (q := [58, 55]) (n := 2) (Array.getElem?_eq_some_iff.1 hR).1 (fun W0 hb0 => ?_) (fun W1 hg1 hR1 => ?_)
  · refine head_line (hE.below hb0) b hb3 tMore 0 (Reader.later hR hb0) 42 50 [50, 13, 10, 58, 55] [58, 55] rfl (by decide) (by decide) (by decide) _ (fun w => ?_) (fun w => ?_)
    · have := headIn_count 2 (by decide) w
      rw [dig_one 2 (by decide)] at this
      exact this
    · have := fits_count 2 0 w
      rw [show fitsS (.count 2) 0 = true from by decide] at this
      exact this
  · have hE1 := hE.grown hg1 hb3 hM hW
    refine array_err b 2 (by decide) ⟨#[58, 55]⟩ 0 (by decide) (by decide) aM W1 hR1 (fun W2 hg2 hR2 => ?_)
    exact reply_inner (hE1.grown hg2 hb3 hM hW) b _ hR2

theorem below_but {W W0 w1 : World} {n : Nat} (hb : Below W.heap.size W W0) (hg : W0.grownBy w1 (some n)) (hn : W.heap.size ≤ n) : Below W.heap.size W w1 :=
  hb.grown hg hb.size (fun k e => by simp at e; omega)

set_option maxRecDepth 100000 in
set_option maxHeartbeats 2000000 in
theorem decode_more {W : World} {aM aW : Addr} {m : Int} (hE : Env W aM aW m) (h3 : 3 ≤ W.heap.size) :
    Calls Tryd.prog 11 #[.string tMore] W fun e W' => e = .returned (.tuple #[zeroR, .string tMore, .int .i64 31]) ∧ Below W.heap.size W W' := by
  have hZ0 : (W.alloc (Obj.cells #[Value.int IntKind.i64 0, Value.int IntKind.i64 0, Value.string { data := #[] }, Value.slice none 0 0] 24)).heap[W.heap.size]? = some (Obj.cells #[Value.int IntKind.i64 0, Value.int IntKind.i64 0, Value.string { data := #[] }, Value.slice none 0 0] 24 (0, 0)) := heap_at rfl
  have hB0 : Below W.heap.size W ((W.alloc (Obj.cells #[Value.int IntKind.i64 0, Value.int IntKind.i64 0, Value.string { data := #[] }, Value.slice none 0 0] 24)).alloc (Obj.cells #[Value.string tMore, .int .i64 0] 58)) := ((Below.refl _ _).alloc (Nat.le_refl _) _).alloc (by simp) _
  have hE0 := hE.below hB0
  have hM : aM.block ≠ W.heap.size + 1 := by obtain ⟨_, _, r⟩ := hE.rowM; have := (Array.getElem?_eq_some_iff.1 r).1; omega
  have hW : aW.block ≠ W.heap.size + 1 := by obtain ⟨_, _, r⟩ := hE.rowW; have := (Array.getElem?_eq_some_iff.1 r).1; omega
  have hZ : ((W.alloc (Obj.cells #[Value.int IntKind.i64 0, Value.int IntKind.i64 0, Value.string { data := #[] }, Value.slice none 0 0] 24)).alloc (Obj.cells #[Value.string tMore, .int .i64 0] 58)).heap[W.heap.size]? = some (Obj.cells #[Value.int IntKind.i64 0, Value.int IntKind.i64 0, Value.string { data := #[] }, Value.slice none 0 0] 24 (0, 0)) := (Below.heap_alloc _ _ _ (by simp)).trans hZ0
  have hR0 : Reader ((W.alloc (Obj.cells #[Value.int IntKind.i64 0, Value.int IntKind.i64 0, Value.string { data := #[] }, Value.slice none 0 0] 24)).alloc (Obj.cells #[Value.string tMore, .int .i64 0] 58)) (W.heap.size + 1) tMore 0 := heap_at (by simp)
  have HR := Lib.hid (reply_more hE0 (W.heap.size + 1) (by omega) hM hW hR0)
  clear hR0 hZ0
  go_enter Tryd.func11, Tryd.ntmps11
  go_wp2_with fail
  refine HR.out.mono ?_
  rintro e w1 ⟨rfl, hg, t', hr⟩
  have hE1 := hE0.grown hg (by omega) hM hW
  have hz1 := (hg.block _ (Array.getElem?_eq_some_iff.1 hZ).1 (by simp)).trans hZ
  have hBB : Below W.heap.size W w1 := below_but hB0 hg (by omega)
  have hB2 := (Below.refl w1.heap.size w1).alloc (Nat.le_refl _) (Obj.cells #[Value.int IntKind.i64 0, Value.int IntKind.i64 0, Value.string { data := #[] }, Value.slice none 0 0] 24)
  have hE2 := hE1.below hB2
  have hz2 := (hB2.block _ (Array.getElem?_eq_some_iff.1 hz1).1).trans hz1
  have hBB2 := hBB.trans (hB2.mono hBB.size)
  have hn2 : (w1.alloc (Obj.cells #[Value.int IntKind.i64 0, Value.int IntKind.i64 0, Value.string { data := #[] }, Value.slice none 0 0] 24)).heap[w1.heap.size]? = some (Obj.cells #[Value.int IntKind.i64 0, Value.int IntKind.i64 0, Value.string { data := #[] }, Value.slice none 0 0] 24 (0, 0)) := heap_at rfl
  obtain ⟨_, _, rM⟩ := hE2.rowM
  obtain ⟨_, _, rW⟩ := hE2.rowW
  have gM := hE2.more
  have gW := hE2.wrong
  have e0 := (cell_in 0 hz2).trans (show _ = some (.int .i64 0) from rfl)
  have e1 := (cell_in 1 hz2).trans (show _ = some (.int .i64 0) from rfl)
  have e2 := (cell_in 2 hz2).trans (show _ = some (.string ⟨#[]⟩) from rfl)
  have e3 := (cell_in 3 hz2).trans (show _ = some (.slice none 0 0) from rfl)
  have f0 := free_in 0 hz2
  have f1 := free_in 1 hz2
  have f2 := free_in 2 hz2
  have f3 := free_in 3 hz2
  have hne := hE1.ne
  have HZ := Lib.hid hz2
  have HB := Lib.hid hBB2
  have S1 := fun w => Lib.hid (is_same aM w)
  have S2 := fun w => Lib.hid (is_same aW w)
  have S3 := Lib.hid (is_other aW aM _ _ _ _ _ hne.symm rW rM)
  clear hE0 hE1 hE2 hM hW hZ hB0 hB2 hg hz1 hz2 hBB hBB2 rM rW HR hr hE hne hn2
  unfold zeroR
  go_wp2_with (go_at_call 24; refine (S1 _).out.mono ?_; rintro e w' ⟨rfl, rfl⟩)
  obtain ⟨g1, g2, g3⟩ := four_set (.int .i64 0) (.int .i64 0) (.string ⟨#[]⟩) (.slice none 0 0) HZ.out
  have hB4 := HB.out.trans (g3 W.heap.size (Nat.le_refl _))
  generalize (((((w1.alloc (Obj.cells #[Value.int IntKind.i64 0, Value.int IntKind.i64 0, Value.string { data := #[] }, Value.slice none 0 0] 24)).setCell { block := W.heap.size, off := 0 } (Value.int IntKind.i64 0)).setCell { block := W.heap.size, off := 1 } (Value.int IntKind.i64 0)).setCell
          { block := W.heap.size, off := 2 } (Value.string { data := #[] })).setCell { block := W.heap.size, off := 3 } (Value.slice none 0 0)) = W4 at *
  have b0 := cell_in 0 g1
  have b1 := cell_in 1 g1
  have b2 := cell_in 2 g1
  have b3 := cell_in 3 g1
  refine ⟨rfl, .tuple #[zeroR, .string tMore, .int .i64 31], ?_, rfl, hB4⟩
  simp [results, Tryd.f11, go_sem, b0, b1, b2, b3, zeroR]

set_option maxRecDepth 100000 in
set_option maxHeartbeats 2000000 in
theorem decode_wrong {W : World} {aM aW : Addr} {m : Int} (hE : Env W aM aW m) (h3 : 3 ≤ W.heap.size) :
    Calls Tryd.prog 11 #[.string tWrong] W fun e W' => e = .returned (.tuple #[zeroR, .string tWrong, .int .i64 30]) ∧ Below W.heap.size W W' := by
  have hZ0 : (W.alloc (Obj.cells #[Value.int IntKind.i64 0, Value.int IntKind.i64 0, Value.string { data := #[] }, Value.slice none 0 0] 24)).heap[W.heap.size]? = some (Obj.cells #[Value.int IntKind.i64 0, Value.int IntKind.i64 0, Value.string { data := #[] }, Value.slice none 0 0] 24 (0, 0)) := heap_at rfl
  have hB0 : Below W.heap.size W ((W.alloc (Obj.cells #[Value.int IntKind.i64 0, Value.int IntKind.i64 0, Value.string { data := #[] }, Value.slice none 0 0] 24)).alloc (Obj.cells #[Value.string tWrong, .int .i64 0] 58)) := ((Below.refl _ _).alloc (Nat.le_refl _) _).alloc (by simp) _
  have hE0 := hE.below hB0
  have hM : aM.block ≠ W.heap.size + 1 := by obtain ⟨_, _, r⟩ := hE.rowM; have := (Array.getElem?_eq_some_iff.1 r).1; omega
  have hW : aW.block ≠ W.heap.size + 1 := by obtain ⟨_, _, r⟩ := hE.rowW; have := (Array.getElem?_eq_some_iff.1 r).1; omega
  have hZ : ((W.alloc (Obj.cells #[Value.int IntKind.i64 0, Value.int IntKind.i64 0, Value.string { data := #[] }, Value.slice none 0 0] 24)).alloc (Obj.cells #[Value.string tWrong, .int .i64 0] 58)).heap[W.heap.size]? = some (Obj.cells #[Value.int IntKind.i64 0, Value.int IntKind.i64 0, Value.string { data := #[] }, Value.slice none 0 0] 24 (0, 0)) := (Below.heap_alloc _ _ _ (by simp)).trans hZ0
  have hR0 : Reader ((W.alloc (Obj.cells #[Value.int IntKind.i64 0, Value.int IntKind.i64 0, Value.string { data := #[] }, Value.slice none 0 0] 24)).alloc (Obj.cells #[Value.string tWrong, .int .i64 0] 58)) (W.heap.size + 1) tWrong 0 := heap_at (by simp)
  have HR := Lib.hid (reply_wrong hE0 (W.heap.size + 1) hR0)
  clear hR0 hZ0
  go_enter Tryd.func11, Tryd.ntmps11
  go_wp2_with fail
  refine HR.out.mono ?_
  rintro e w1 ⟨rfl, hg, t', hr⟩
  have hE1 := hE0.grown hg (by omega) hM hW
  have hz1 := (hg.block _ (Array.getElem?_eq_some_iff.1 hZ).1 (by simp)).trans hZ
  have hBB : Below W.heap.size W w1 := below_but hB0 hg (by omega)
  have hB2 := (Below.refl w1.heap.size w1).alloc (Nat.le_refl _) (Obj.cells #[Value.int IntKind.i64 0, Value.int IntKind.i64 0, Value.string { data := #[] }, Value.slice none 0 0] 24)
  have hE2 := hE1.below hB2
  have hz2 := (hB2.block _ (Array.getElem?_eq_some_iff.1 hz1).1).trans hz1
  have hBB2 := hBB.trans (hB2.mono hBB.size)
  have hn2 : (w1.alloc (Obj.cells #[Value.int IntKind.i64 0, Value.int IntKind.i64 0, Value.string { data := #[] }, Value.slice none 0 0] 24)).heap[w1.heap.size]? = some (Obj.cells #[Value.int IntKind.i64 0, Value.int IntKind.i64 0, Value.string { data := #[] }, Value.slice none 0 0] 24 (0, 0)) := heap_at rfl
  obtain ⟨_, _, rM⟩ := hE2.rowM
  obtain ⟨_, _, rW⟩ := hE2.rowW
  have gM := hE2.more
  have gW := hE2.wrong
  have e0 := (cell_in 0 hz2).trans (show _ = some (.int .i64 0) from rfl)
  have e1 := (cell_in 1 hz2).trans (show _ = some (.int .i64 0) from rfl)
  have e2 := (cell_in 2 hz2).trans (show _ = some (.string ⟨#[]⟩) from rfl)
  have e3 := (cell_in 3 hz2).trans (show _ = some (.slice none 0 0) from rfl)
  have f0 := free_in 0 hz2
  have f1 := free_in 1 hz2
  have f2 := free_in 2 hz2
  have f3 := free_in 3 hz2
  have hne := hE1.ne
  have HZ := Lib.hid hz2
  have HB := Lib.hid hBB2
  have S1 := fun w => Lib.hid (is_same aM w)
  have S2 := fun w => Lib.hid (is_same aW w)
  have S3 := Lib.hid (is_other aW aM _ _ _ _ _ hne.symm rW rM)
  clear hE0 hE1 hE2 hM hW hZ hB0 hB2 hg hz1 hz2 hBB hBB2 rM rW HR hr hE hne hn2
  unfold zeroR
  go_wp2_with fail
  refine S3.out.mono ?_
  rintro e w' ⟨rfl, rfl⟩
  go_wp2_with fail
  refine (S2 _).out.mono ?_
  rintro e w' ⟨rfl, rfl⟩
  go_wp2
  obtain ⟨g1, g2, g3⟩ := four_set (.int .i64 0) (.int .i64 0) (.string ⟨#[]⟩) (.slice none 0 0) HZ.out
  have hB4 := HB.out.trans (g3 W.heap.size (Nat.le_refl _))
  generalize (((((w1.alloc (Obj.cells #[Value.int IntKind.i64 0, Value.int IntKind.i64 0, Value.string { data := #[] }, Value.slice none 0 0] 24)).setCell { block := W.heap.size, off := 0 } (Value.int IntKind.i64 0)).setCell { block := W.heap.size, off := 1 } (Value.int IntKind.i64 0)).setCell
          { block := W.heap.size, off := 2 } (Value.string { data := #[] })).setCell { block := W.heap.size, off := 3 } (Value.slice none 0 0)) = W4 at *
  have b0 := cell_in 0 g1
  have b1 := cell_in 1 g1
  have b2 := cell_in 2 g1
  have b3 := cell_in 3 g1
  refine ⟨rfl, .tuple #[zeroR, .string tWrong, .int .i64 30], ?_, rfl, hB4⟩
  simp [results, Tryd.f11, go_sem, b0, b1, b2, b3, zeroR]


end Go.Proofs.YtjcgfbmkgfhnaaaDoor
