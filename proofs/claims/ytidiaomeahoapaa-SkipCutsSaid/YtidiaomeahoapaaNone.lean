/- A nil list has nothing. -/
import Derived.Test.YtidiaomeahoapaaShown
namespace Go.Proofs.Ytidiaomeahoapaa
open Go.RowKit Go.Shelf
attribute [local go_sem] Oper.semAt_some

theorem range_nil (f t : Int) (w : World) : Calls Try.prog 18 #[.pointer none, .int .i64 f, .int .i64 t] w fun e w' => e = .returned (.slice none 0 0) ∧ Below w.heap.size w w' := by
  have HP := fun w => Lib.hid (part_nil f t w)
  have h : (max f 0) ≥ (min t 0) := by omega
  generalize max f 0 = a at *
  generalize min t 0 = b at *
  go_enter Try.func18, Try.ntmps18
  go_wp2_with fail
  refine wp_scope_straight ?_
  go_wp2_with fail
  refine (HP _).out.mono ?_
  rintro e w1 ⟨rfl, rfl⟩
  go_wp2
  rw [Exit.noGoto_ret]
  go_returns
  exact ⟨rfl, (Below.refl _ _).alloc (Nat.le_refl _) _⟩
theorem back_nil (f t : Int) (w : World) : Calls Try.prog 26 #[.pointer none, .int .i64 f, .int .i64 t] w fun e w' => e = .returned (.slice none 0 0) ∧ Below w.heap.size w w' := by
  have HP := fun w => Lib.hid (part_nil f t w)
  have h : (max f 0) ≥ (min t 0) := by omega
  generalize max f 0 = a at *
  generalize min t 0 = b at *
  go_enter Try.func26, Try.ntmps26
  go_wp2_with fail
  refine wp_scope_straight ?_
  go_wp2_with fail
  refine (HP _).out.mono ?_
  rintro e w1 ⟨rfl, rfl⟩
  go_wp2
  rw [Exit.noGoto_ret]
  go_returns
  exact ⟨rfl, (Below.refl _ _).alloc (Nat.le_refl _) _⟩
theorem levels_nil (w : World) : Calls Try.prog 15 #[.pointer none] w fun e w' => e = .returned (.int .i64 0) ∧ w' = w := by
  go_enter Try.func15, Try.ntmps15
  go_wp2
  go_returns
  exact ⟨rfl, rfl⟩

theorem facts6 {W : World} {b : Nat} {t : TypeId} {c0 c1 c2 c3 c4 c5 : Value} (h : Blk W b t #[c0, c1, c2, c3, c4, c5]) : W.cell? ⟨b, 0, none⟩ = some c0 ∧ W.cell? ⟨b, 1, none⟩ = some c1 ∧ W.cell? ⟨b, 2, none⟩ = some c2 ∧ W.cell? ⟨b, 3, none⟩ = some c3 ∧ W.cell? ⟨b, 4, none⟩ = some c4 ∧ W.cell? ⟨b, 5, none⟩ = some c5 :=
  ⟨h.cell 0, h.cell 1, h.cell 2, h.cell 3, h.cell 4, h.cell 5⟩
set_option maxRecDepth 100000 in
set_option maxHeartbeats 16000000 in
theorem none_walk (d : Int) (m : ByteArray) (s l f t : Int) (w : World) : Calls Try.prog 8 #[.agg #[.int .i64 d, .string m, .int .i64 s, .int .i64 l, .int .i64 f, .int .i64 t]] w fun e w' => e = .returned (.bool true) ∧ Below w.heap.size w w' := by
  have H10 := fun w => Lib.hid (shown_any w)
  have H25 := fun w => Lib.hid (seek_nil m s w)
  have H13 := fun w => Lib.hid (at_out none f w 0 (fun w' _ => len_nil w') (by omega))
  have H27 := fun w => Lib.hid (insert_nil m s l w)
  have H28 := fun w => Lib.hid (delete_nil m s w)
  have H14 := fun w => Lib.hid (len_nil w)
  have H18 := fun w => Lib.hid (range_nil f t w)
  have H26 := fun w => Lib.hid (back_nil f t w)
  have H29 := fun w => Lib.hid (cut_nil f t w)
  have H15 := fun w => Lib.hid (levels_nil w)
  have H21 := fun w => Lib.hid (spans_nil l w)
  have kA := Blk.new w 34 #[.int .i64 d, .string m, .int .i64 s, .int .i64 l, .int .i64 f, .int .i64 t]
  have hbA : Below w.heap.size w (w.alloc (.cells #[.int .i64 d, .string m, .int .i64 s, .int .i64 l, .int .i64 f, .int .i64 t] 34)) := (Below.refl _ _).alloc (Nat.le_refl _) _
  have HA := Lib.hid kA
  have HB := Lib.hid hbA
  clear kA hbA
  go_enter Try.func8, Try.ntmps8
  go_wp2_with fail
  refine (H10 _).out.mono ?_
  rintro e w1 ⟨rfl, hb⟩
  have HA1 := Lib.hid (HA.out.later hb)
  have HB1 := Lib.hid (HB.out.trans (hb.mono HB.out.size))
  obtain ⟨e0, e1, e2, e3, e4, e5⟩ := facts6 (HA.out.later hb)
  clear hb HA HB
  go_wp2_with fail
  refine (H25 _).out.mono ?_
  rintro e w2 ⟨rfl, hb⟩
  have HA2 := Lib.hid (HA1.out.later hb)
  have HB2 := Lib.hid (HB1.out.trans (hb.mono HB1.out.size))
  clear e0 e1 e2 e3 e4 e5
  obtain ⟨e0, e1, e2, e3, e4, e5⟩ := facts6 (HA1.out.later hb)
  clear hb HA1 HB1
  go_wp2_with fail
  refine (H13 _).out.mono ?_
  rintro e w3 ⟨rfl, hb⟩
  have hbx : Below w2.heap.size w2 (w3.alloc (.cells #[.string ⟨#[]⟩, .int .i64 0] 32)) := hb.trans (((Below.refl w3.heap.size w3).alloc (Nat.le_refl _) _).mono hb.size)
  have HA3 := Lib.hid (HA2.out.later hbx)
  have HB3 := Lib.hid (HB2.out.trans (hbx.mono HB2.out.size))
  have hz : w.heap.size < w3.heap.size := (HA2.out.later hb).lt
  clear e0 e1 e2 e3 e4 e5
  obtain ⟨e0, e1, e2, e3, e4, e5⟩ := facts6 (HA2.out.later hb)
  clear hb HA2 HB2
  go_wp2_with fail
  refine (H27 _).out.mono ?_
  rintro e w4 ⟨rfl, hb⟩
  have HA4 := Lib.hid (HA3.out.later hb)
  have HB4 := Lib.hid (HB3.out.trans (hb.mono HB3.out.size))
  clear e0 e1 e2 e3 e4 e5
  obtain ⟨e0, e1, e2, e3, e4, e5⟩ := facts6 (HA3.out.later hb)
  clear hb HA3 HB3 H27
  go_wp2_with fail
  refine (H28 _).out.mono ?_
  rintro e w5 ⟨rfl, hb⟩
  have HA5 := Lib.hid (HA4.out.later hb)
  have HB5 := Lib.hid (HB4.out.trans (hb.mono HB4.out.size))
  clear e0 e1 e2 e3 e4 e5
  obtain ⟨e0, e1, e2, e3, e4, e5⟩ := facts6 (HA4.out.later hb)
  clear hb HA4 HB4 H28
  go_wp2_with fail
  refine (H14 _).out.mono ?_
  rintro e w99 ⟨rfl, he⟩
  rw [he]
  clear he H14
  go_wp2_with fail
  refine (H18 _).out.mono ?_
  rintro e w6 ⟨rfl, hb⟩
  have HA6 := Lib.hid (HA5.out.later hb)
  have HB6 := Lib.hid (HB5.out.trans (hb.mono HB5.out.size))
  clear e0 e1 e2 e3 e4 e5
  obtain ⟨e0, e1, e2, e3, e4, e5⟩ := facts6 (HA5.out.later hb)
  clear hb HA5 HB5 H18
  go_wp2_with fail
  refine (H26 _).out.mono ?_
  rintro e w7 ⟨rfl, hb⟩
  have HA7 := Lib.hid (HA6.out.later hb)
  have HB7 := Lib.hid (HB6.out.trans (hb.mono HB6.out.size))
  clear e0 e1 e2 e3 e4 e5
  obtain ⟨e0, e1, e2, e3, e4, e5⟩ := facts6 (HA6.out.later hb)
  clear hb HA6 HB6 H26
  go_wp2_with fail
  refine (H29 _).out.mono ?_
  rintro e w99 ⟨rfl, he⟩
  rw [he]
  clear he H29
  go_wp2_with fail
  refine (H15 _).out.mono ?_
  rintro e w99 ⟨rfl, he⟩
  rw [he]
  clear he H15
  go_wp2_with fail
  refine (H21 _).out.mono ?_
  rintro e w99 ⟨rfl, he⟩
  rw [he]
  clear he H21
  go_wp2_with fail
  go_returns
  exact ⟨rfl, HB7.out⟩
end Go.Proofs.Ytidiaomeahoapaa
