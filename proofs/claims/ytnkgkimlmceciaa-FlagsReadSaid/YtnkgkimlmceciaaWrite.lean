/- The words of flags: Write, the program's and the reference's. -/
import Derived.Test.YtnkgkimlmceciaaFew
namespace Go.Proofs.Ytnkgkimlmceciaa
open Go.RowKit Go.Shelf
attribute [local go_sem] Oper.semAt_some

/-- The words of the first k flags that are set. -/
def wordsK (f : Fl) (k : Nat) : List ByteArray := ((List.range k).filter fun j => f.get j).map kw
theorem words_succ (f : Fl) (k : Nat) : wordsK f (k + 1) = if f.get k then wordsK f k ++ [kw k] else wordsK f k := by
  unfold wordsK
  rw [List.range_succ, List.filter_append, List.map_append]
  cases h : f.get k <;> simp [h]
theorem words_len (f : Fl) (k : Nat) : (wordsK f k).length ≤ k := by
  unfold wordsK
  rw [List.length_map]
  exact Nat.le_trans (List.length_filter_le _ _) (by simp)
/-- What Write answers, as a row of one's own. -/
def RowW (w W : World) (r : Value) (l : List ByteArray) : Prop := W.ownsRow w.heap.size 9 1 r l.length (cellsS l)

theorem eq_set (k : Nat) (hk : k < 6) (f : Fl) (W : World) : (binOp .eql 23 (f.set k).v f.v).run Try.prog W = .ok (.bool (f.get k)) W := by
  obtain ⟨nx, xx, gt, lt, ch, inc⟩ := f
  obtain rfl | rfl | rfl | rfl | rfl | rfl : k = 0 ∨ k = 1 ∨ k = 2 ∨ k = 3 ∨ k = 4 ∨ k = 5 := by omega
  · cases nx <;> simp [go_sem, Fl.v, Fl.c, Fl.set, Fl.get]
  · cases xx <;> simp [go_sem, Fl.v, Fl.c, Fl.set, Fl.get]
  · cases gt <;> simp [go_sem, Fl.v, Fl.c, Fl.set, Fl.get]
  · cases lt <;> simp [go_sem, Fl.v, Fl.c, Fl.set, Fl.get]
  · cases ch <;> simp [go_sem, Fl.v, Fl.c, Fl.set, Fl.get]
  · cases inc <;> simp [go_sem, Fl.v, Fl.c, Fl.set, Fl.get]

set_option maxRecDepth 100000 in
set_option maxHeartbeats 2000000 in
theorem in_any (k : Nat) (hk : k < 6) (f : Fl) (w : World) : Calls Try.prog 26 #[.agg (flagC k), f.v] w fun e w' => e = .returned (.bool (f.get k)) ∧ Below w.heap.size w w' := by
  have HC := fun W => Lib.hid (set_any k hk f W)
  have hq := fun W => eq_set k hk f W
  obtain ⟨nx, xx, gt, lt, ch, inc⟩ := f
  obtain ⟨w1, hw1⟩ : ∃ w1, w1 = (w.alloc (.cells (flagC k) 47)).alloc (.cells #[.bool nx, .bool xx, .bool gt, .bool lt, .bool ch, .bool inc] 23) := ⟨_, rfl⟩
  have hA : Blk w1 w.heap.size 47 (flagC k) := by rw [hw1]; exact (Blk.new w 47 _).alloc _
  have hB : Blk w1 (w.heap.size + 1) 23 #[.bool nx, .bool xx, .bool gt, .bool lt, .bool ch, .bool inc] := by
    have h := Blk.new (w.alloc (.cells (flagC k) 47)) 23 #[.bool nx, .bool xx, .bool gt, .bool lt, .bool ch, .bool inc]
    rw [World.size_alloc] at h
    rw [hw1]; exact h
  have hb1 : Below w.heap.size w w1 := by rw [hw1]; exact ((Below.refl _ _).alloc (Nat.le_refl _) _).alloc (by simp) _
  have HW := Lib.hid hw1
  have q1 := hA.ext 1 (.func (.func (31 + k)) #[] #[]) rfl
  have r0 := hB.ext 0 (.bool nx) rfl
  have r1 := hB.ext 1 (.bool xx) rfl
  have r2 := hB.ext 2 (.bool gt) rfl
  have r3 := hB.ext 3 (.bool lt) rfl
  have r4 := hB.ext 4 (.bool ch) rfl
  have r5 := hB.ext 5 (.bool inc) rfl
  clear hw1 hA hB
  have hne := Ext.one w1
  unfold flagC fn_ at HW ⊢
  simp only [Fl.v, Fl.c] at HC hq ⊢
  obtain rfl | rfl | rfl | rfl | rfl | rfl : k = 0 ∨ k = 1 ∨ k = 2 ∨ k = 3 ∨ k = 4 ∨ k = 5 := by omega
  all_goals simp only [Fl.set, Fl.get] at HC hq ⊢
  all_goals go_enter Try.func26, Try.ntmps26
  all_goals go_wp2_with fail
  all_goals rw [← HW.out]
  all_goals refine region_ext (w1 := w1) (by kernel_rfl) (by kernel_rfl) (Below.refl _ _) ?_
  · repeat go_big_quiet_step ((go_at_call 31; exact Ext.call _ (HC _).out))
    refine wpQuiet_nil ?_
    rintro _ ⟨x, rfl⟩
    go_wp2_with fail
    go_ret
    exact ⟨rfl, hb1.trans (x.ok.mono hb1.size)⟩
  · repeat go_big_quiet_step ((go_at_call 32; exact Ext.call _ (HC _).out))
    refine wpQuiet_nil ?_
    rintro _ ⟨x, rfl⟩
    go_wp2_with fail
    go_ret
    exact ⟨rfl, hb1.trans (x.ok.mono hb1.size)⟩
  · repeat go_big_quiet_step ((go_at_call 33; exact Ext.call _ (HC _).out))
    refine wpQuiet_nil ?_
    rintro _ ⟨x, rfl⟩
    go_wp2_with fail
    go_ret
    exact ⟨rfl, hb1.trans (x.ok.mono hb1.size)⟩
  · repeat go_big_quiet_step ((go_at_call 34; exact Ext.call _ (HC _).out))
    refine wpQuiet_nil ?_
    rintro _ ⟨x, rfl⟩
    go_wp2_with fail
    go_ret
    exact ⟨rfl, hb1.trans (x.ok.mono hb1.size)⟩
  · repeat go_big_quiet_step ((go_at_call 35; exact Ext.call _ (HC _).out))
    refine wpQuiet_nil ?_
    rintro _ ⟨x, rfl⟩
    go_wp2_with fail
    go_ret
    exact ⟨rfl, hb1.trans (x.ok.mono hb1.size)⟩
  · repeat go_big_quiet_step ((go_at_call 36; exact Ext.call _ (HC _).out))
    refine wpQuiet_nil ?_
    rintro _ ⟨x, rfl⟩
    go_wp2_with fail
    go_ret
    exact ⟨rfl, hb1.trans (x.ok.mono hb1.size)⟩
end Go.Proofs.Ytnkgkimlmceciaa
