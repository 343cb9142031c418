/- FlagsRises: its walk, case by case. -/
import Derived.Test.YtnkgkimlmceciaaMore
namespace Go.Proofs.Ytnkgkimlmceciaa
open Go.RowKit Go.Shelf
attribute [local go_sem] Oper.semAt_some

/-- A region that has one order, whose operations only read: walked by the quiet walk, too. -/
theorem wpList_of_quiet {P : Program} {ops : Array Oper} {C : World → Prop} {Q : Exit → Act → World → Prop} : ∀ (l : List Oper) (a : Act) (w : World), C w → wpQuiet P ops C (fun a' => ∀ w', C w' → Q .normal a' w') l a → wpList P ops Q l a w
  | [], _, w, hC, h => h w hC
  | o :: r, a, w, hC, h => by
    unfold wpList
    unfold wpQuiet at h
    split
    · rename_i hw
      rw [if_pos hw] at h
      exact .inl (Oper.wp_of_quiet hC (fun a' w' hC' hK => wpList_of_quiet r a' w' hC' hK) h)
    · rename_i hw
      rw [if_neg hw] at h
      exact wpList_of_quiet r _ w hC h
theorem region_plain {P : Program} {id : Nat} {Q : Exit → Act → World → Prop} {a : Act} {w1 w : World} {l : List Oper} (hw : Below w1.heap.size w1 w)
    (h : wpQuiet P l.toArray (fun W => ∃ x : Ext w1, W = x.w) (fun a' => ∀ w', (∃ x : Ext w1, w' = x.w) → Q .normal a' w') l a) : (Code.region id l.toArray false).wp P Q a w :=
  wp_region_lit (wpList_of_quiet (C := fun W => ∃ x : Ext w1, W = x.w) l a w ⟨⟨w, hw⟩, rfl⟩ h)

set_option maxRecDepth 100000 in
set_option maxHeartbeats 2000000 in
theorem risesB0000 (ch inc : Bool) (old n a c : Int) (hc : c = 0)  (HA : ∀ w, Hid (Calls Try.prog 10 #[.agg #[.bool false, .bool false, .bool false, .bool false, .bool ch, .bool inc], .bool false, .int .i64 old, .int .i64 n] w fun e w' => e = .returned (.tuple #[.int .i64 a, .int .i64 1, .int .i64 c]) ∧ Below w.heap.size w w')) (w : World) :
    Calls Try.prog 7 #[.agg #[.bool false, .bool false, .bool false, .bool false, .bool ch, .bool inc], .bool false, .int .i64 old, .int .i64 n] w fun e w' => e = .returned (.bool true) ∧ Below w.heap.size w w' := by
  have HS := fun w => Lib.hid (shown_any w)
  subst hc
  go_enter Try.func7, Try.ntmps7
  go_wp2_with fail
  refine (HS _).out.mono ?_
  rintro e w1 ⟨rfl, hb1⟩
  have B1 := Lib.hid (((Below.refl _ _).alloc (Nat.le_refl _) _).trans (hb1.mono (by simp)))
  have K1 := Lib.hid ((Blk.new w 23 _).later hb1)
  clear hb1
  have c0 := K1.out.cell 0
  have c1 := K1.out.cell 1
  have c2 := K1.out.cell 2
  have c3 := K1.out.cell 3
  have c4 := K1.out.cell 4
  have c5 := K1.out.cell 5
  simp at c0 c1 c2 c3 c4 c5
  go_wp2_with fail
  refine (HA _).out.mono ?_
  rintro e w2 ⟨rfl, hb2⟩
  have B2 := Lib.hid (B1.out.trans (hb2.mono B1.out.size))
  have K2 := Lib.hid (K1.out.later hb2)
  clear K1 B1 hb2 c0 c1 c2 c3 c4 c5
  have q0 := K2.out.ext 0 (.bool false) rfl
  have q1 := K2.out.ext 1 (.bool false) rfl
  have q2 := K2.out.ext 2 (.bool false) rfl
  have q3 := K2.out.ext 3 (.bool false) rfl
  have q4 := K2.out.ext 4 (.bool ch) rfl
  have q5 := K2.out.ext 5 (.bool inc) rfl
  have hne := Ext.one w2
  go_upto_region 5 with (fail)
  refine region_plain (w1 := w2) (Below.refl _ _) ?_
  simp only [List.append_eq, List.cons_append, List.nil_append]
  repeat go_big_quiet_step (fail)
  refine wpQuiet_nil ?_
  rintro _ ⟨x, rfl⟩
  go_wp2_with fail
  go_ret
  exact ⟨rfl, B2.out.trans (x.ok.mono B2.out.size)⟩

set_option maxRecDepth 100000 in
set_option maxHeartbeats 2000000 in
theorem risesC0000 (ch inc : Bool) (old n a c : Int) (hc : c = 0) (ha : a = old) (HA : ∀ w, Hid (Calls Try.prog 10 #[.agg #[.bool false, .bool false, .bool false, .bool false, .bool ch, .bool inc], .bool true, .int .i64 old, .int .i64 n] w fun e w' => e = .returned (.tuple #[.int .i64 a, .int .i64 0, .int .i64 c]) ∧ Below w.heap.size w w')) (w : World) :
    Calls Try.prog 7 #[.agg #[.bool false, .bool false, .bool false, .bool false, .bool ch, .bool inc], .bool true, .int .i64 old, .int .i64 n] w fun e w' => e = .returned (.bool true) ∧ Below w.heap.size w w' := by
  have HS := fun w => Lib.hid (shown_any w)
  subst hc
  subst ha
  have e3 : decide (a ≤ a) = true := by simp
  have e4 : (a == a) = true := by simp
  go_enter Try.func7, Try.ntmps7
  go_wp2_with fail
  refine (HS _).out.mono ?_
  rintro e w1 ⟨rfl, hb1⟩
  have B1 := Lib.hid (((Below.refl _ _).alloc (Nat.le_refl _) _).trans (hb1.mono (by simp)))
  have K1 := Lib.hid ((Blk.new w 23 _).later hb1)
  clear hb1
  have c0 := K1.out.cell 0
  have c1 := K1.out.cell 1
  have c2 := K1.out.cell 2
  have c3 := K1.out.cell 3
  have c4 := K1.out.cell 4
  have c5 := K1.out.cell 5
  simp at c0 c1 c2 c3 c4 c5
  go_wp2_with fail
  refine (HA _).out.mono ?_
  rintro e w2 ⟨rfl, hb2⟩
  have B2 := Lib.hid (B1.out.trans (hb2.mono B1.out.size))
  have K2 := Lib.hid (K1.out.later hb2)
  clear K1 B1 hb2 c0 c1 c2 c3 c4 c5
  have q0 := K2.out.ext 0 (.bool false) rfl
  have q1 := K2.out.ext 1 (.bool false) rfl
  have q2 := K2.out.ext 2 (.bool false) rfl
  have q3 := K2.out.ext 3 (.bool false) rfl
  have q4 := K2.out.ext 4 (.bool ch) rfl
  have q5 := K2.out.ext 5 (.bool inc) rfl
  have hne := Ext.one w2
  go_upto_region 5 with (fail)
  refine region_plain (w1 := w2) (Below.refl _ _) ?_
  simp only [List.append_eq, List.cons_append, List.nil_append]
  repeat go_big_quiet_step (fail)
  refine wpQuiet_nil ?_
  rintro _ ⟨x, rfl⟩
  go_wp2_with fail
  go_ret
  exact ⟨rfl, B2.out.trans (x.ok.mono B2.out.size)⟩

set_option maxRecDepth 100000 in
set_option maxHeartbeats 2000000 in
theorem risesD0000 (ch inc : Bool) (old n a c : Int) (hc : c = 0) (hne : a ≠ old) (HA : ∀ w, Hid (Calls Try.prog 10 #[.agg #[.bool false, .bool false, .bool false, .bool false, .bool ch, .bool inc], .bool true, .int .i64 old, .int .i64 n] w fun e w' => e = .returned (.tuple #[.int .i64 a, .int .i64 2, .int .i64 c]) ∧ Below w.heap.size w w')) (w : World) :
    Calls Try.prog 7 #[.agg #[.bool false, .bool false, .bool false, .bool false, .bool ch, .bool inc], .bool true, .int .i64 old, .int .i64 n] w fun e w' => e = .returned (.bool true) ∧ Below w.heap.size w w' := by
  have HS := fun w => Lib.hid (shown_any w)
  subst hc
  have e1 : (a != old) = true := by simpa using hne
  have e2 : (a == old) = false := by simpa using hne
  clear hne
  go_enter Try.func7, Try.ntmps7
  go_wp2_with fail
  refine (HS _).out.mono ?_
  rintro e w1 ⟨rfl, hb1⟩
  have B1 := Lib.hid (((Below.refl _ _).alloc (Nat.le_refl _) _).trans (hb1.mono (by simp)))
  have K1 := Lib.hid ((Blk.new w 23 _).later hb1)
  clear hb1
  have c0 := K1.out.cell 0
  have c1 := K1.out.cell 1
  have c2 := K1.out.cell 2
  have c3 := K1.out.cell 3
  have c4 := K1.out.cell 4
  have c5 := K1.out.cell 5
  simp at c0 c1 c2 c3 c4 c5
  go_wp2_with fail
  refine (HA _).out.mono ?_
  rintro e w2 ⟨rfl, hb2⟩
  have B2 := Lib.hid (B1.out.trans (hb2.mono B1.out.size))
  have K2 := Lib.hid (K1.out.later hb2)
  clear K1 B1 hb2 c0 c1 c2 c3 c4 c5
  have q0 := K2.out.ext 0 (.bool false) rfl
  have q1 := K2.out.ext 1 (.bool false) rfl
  have q2 := K2.out.ext 2 (.bool false) rfl
  have q3 := K2.out.ext 3 (.bool false) rfl
  have q4 := K2.out.ext 4 (.bool ch) rfl
  have q5 := K2.out.ext 5 (.bool inc) rfl
  have hne := Ext.one w2
  go_upto_region 5 with (fail)
  refine region_plain (w1 := w2) (Below.refl _ _) ?_
  simp only [List.append_eq, List.cons_append, List.nil_append]
  repeat go_big_quiet_step (fail)
  refine wpQuiet_nil ?_
  rintro _ ⟨x, rfl⟩
  go_wp2_with fail
  go_ret
  exact ⟨rfl, B2.out.trans (x.ok.mono B2.out.size)⟩

set_option maxRecDepth 100000 in
set_option maxHeartbeats 2000000 in
theorem risesB0001 (ch inc : Bool) (old n a c : Int) (hc : c = 0)  (HA : ∀ w, Hid (Calls Try.prog 10 #[.agg #[.bool false, .bool false, .bool false, .bool true, .bool ch, .bool inc], .bool false, .int .i64 old, .int .i64 n] w fun e w' => e = .returned (.tuple #[.int .i64 a, .int .i64 1, .int .i64 c]) ∧ Below w.heap.size w w')) (w : World) :
    Calls Try.prog 7 #[.agg #[.bool false, .bool false, .bool false, .bool true, .bool ch, .bool inc], .bool false, .int .i64 old, .int .i64 n] w fun e w' => e = .returned (.bool true) ∧ Below w.heap.size w w' := by
  have HS := fun w => Lib.hid (shown_any w)
  subst hc
  go_enter Try.func7, Try.ntmps7
  go_wp2_with fail
  refine (HS _).out.mono ?_
  rintro e w1 ⟨rfl, hb1⟩
  have B1 := Lib.hid (((Below.refl _ _).alloc (Nat.le_refl _) _).trans (hb1.mono (by simp)))
  have K1 := Lib.hid ((Blk.new w 23 _).later hb1)
  clear hb1
  have c0 := K1.out.cell 0
  have c1 := K1.out.cell 1
  have c2 := K1.out.cell 2
  have c3 := K1.out.cell 3
  have c4 := K1.out.cell 4
  have c5 := K1.out.cell 5
  simp at c0 c1 c2 c3 c4 c5
  go_wp2_with fail
  refine (HA _).out.mono ?_
  rintro e w2 ⟨rfl, hb2⟩
  have B2 := Lib.hid (B1.out.trans (hb2.mono B1.out.size))
  have K2 := Lib.hid (K1.out.later hb2)
  clear K1 B1 hb2 c0 c1 c2 c3 c4 c5
  have q0 := K2.out.ext 0 (.bool false) rfl
  have q1 := K2.out.ext 1 (.bool false) rfl
  have q2 := K2.out.ext 2 (.bool false) rfl
  have q3 := K2.out.ext 3 (.bool true) rfl
  have q4 := K2.out.ext 4 (.bool ch) rfl
  have q5 := K2.out.ext 5 (.bool inc) rfl
  have hne := Ext.one w2
  go_upto_region 5 with (fail)
  refine region_plain (w1 := w2) (Below.refl _ _) ?_
  simp only [List.append_eq, List.cons_append, List.nil_append]
  repeat go_big_quiet_step (fail)
  refine wpQuiet_nil ?_
  rintro _ ⟨x, rfl⟩
  go_wp2_with fail
  go_ret
  exact ⟨rfl, B2.out.trans (x.ok.mono B2.out.size)⟩

set_option maxRecDepth 100000 in
set_option maxHeartbeats 2000000 in
theorem risesC0001 (ch inc : Bool) (old n a c : Int) (hc : c = 0) (ha : a = old) (HA : ∀ w, Hid (Calls Try.prog 10 #[.agg #[.bool false, .bool false, .bool false, .bool true, .bool ch, .bool inc], .bool true, .int .i64 old, .int .i64 n] w fun e w' => e = .returned (.tuple #[.int .i64 a, .int .i64 0, .int .i64 c]) ∧ Below w.heap.size w w')) (w : World) :
    Calls Try.prog 7 #[.agg #[.bool false, .bool false, .bool false, .bool true, .bool ch, .bool inc], .bool true, .int .i64 old, .int .i64 n] w fun e w' => e = .returned (.bool true) ∧ Below w.heap.size w w' := by
  have HS := fun w => Lib.hid (shown_any w)
  subst hc
  subst ha
  have e3 : decide (a ≤ a) = true := by simp
  have e4 : (a == a) = true := by simp
  go_enter Try.func7, Try.ntmps7
  go_wp2_with fail
  refine (HS _).out.mono ?_
  rintro e w1 ⟨rfl, hb1⟩
  have B1 := Lib.hid (((Below.refl _ _).alloc (Nat.le_refl _) _).trans (hb1.mono (by simp)))
  have K1 := Lib.hid ((Blk.new w 23 _).later hb1)
  clear hb1
  have c0 := K1.out.cell 0
  have c1 := K1.out.cell 1
  have c2 := K1.out.cell 2
  have c3 := K1.out.cell 3
  have c4 := K1.out.cell 4
  have c5 := K1.out.cell 5
  simp at c0 c1 c2 c3 c4 c5
  go_wp2_with fail
  refine (HA _).out.mono ?_
  rintro e w2 ⟨rfl, hb2⟩
  have B2 := Lib.hid (B1.out.trans (hb2.mono B1.out.size))
  have K2 := Lib.hid (K1.out.later hb2)
  clear K1 B1 hb2 c0 c1 c2 c3 c4 c5
  have q0 := K2.out.ext 0 (.bool false) rfl
  have q1 := K2.out.ext 1 (.bool false) rfl
  have q2 := K2.out.ext 2 (.bool false) rfl
  have q3 := K2.out.ext 3 (.bool true) rfl
  have q4 := K2.out.ext 4 (.bool ch) rfl
  have q5 := K2.out.ext 5 (.bool inc) rfl
  have hne := Ext.one w2
  go_upto_region 5 with (fail)
  refine region_plain (w1 := w2) (Below.refl _ _) ?_
  simp only [List.append_eq, List.cons_append, List.nil_append]
  repeat go_big_quiet_step (fail)
  refine wpQuiet_nil ?_
  rintro _ ⟨x, rfl⟩
  go_wp2_with fail
  go_ret
  exact ⟨rfl, B2.out.trans (x.ok.mono B2.out.size)⟩

set_option maxRecDepth 100000 in
set_option maxHeartbeats 2000000 in
theorem risesD0001 (ch inc : Bool) (old n a c : Int) (hc : c = 0) (hne : a ≠ old) (hl : a < old) (HA : ∀ w, Hid (Calls Try.prog 10 #[.agg #[.bool false, .bool false, .bool false, .bool true, .bool ch, .bool inc], .bool true, .int .i64 old, .int .i64 n] w fun e w' => e = .returned (.tuple #[.int .i64 a, .int .i64 2, .int .i64 c]) ∧ Below w.heap.size w w')) (w : World) :
    Calls Try.prog 7 #[.agg #[.bool false, .bool false, .bool false, .bool true, .bool ch, .bool inc], .bool true, .int .i64 old, .int .i64 n] w fun e w' => e = .returned (.bool true) ∧ Below w.heap.size w w' := by
  have HS := fun w => Lib.hid (shown_any w)
  subst hc
  have e1 : (a != old) = true := by simpa using hne
  have e2 : (a == old) = false := by simpa using hne
  clear hne
  have e3 : decide (a ≤ old) = true := decide_eq_true (by omega)
  clear hl
  go_enter Try.func7, Try.ntmps7
  go_wp2_with fail
  refine (HS _).out.mono ?_
  rintro e w1 ⟨rfl, hb1⟩
  have B1 := Lib.hid (((Below.refl _ _).alloc (Nat.le_refl _) _).trans (hb1.mono (by simp)))
  have K1 := Lib.hid ((Blk.new w 23 _).later hb1)
  clear hb1
  have c0 := K1.out.cell 0
  have c1 := K1.out.cell 1
  have c2 := K1.out.cell 2
  have c3 := K1.out.cell 3
  have c4 := K1.out.cell 4
  have c5 := K1.out.cell 5
  simp at c0 c1 c2 c3 c4 c5
  go_wp2_with fail
  refine (HA _).out.mono ?_
  rintro e w2 ⟨rfl, hb2⟩
  have B2 := Lib.hid (B1.out.trans (hb2.mono B1.out.size))
  have K2 := Lib.hid (K1.out.later hb2)
  clear K1 B1 hb2 c0 c1 c2 c3 c4 c5
  have q0 := K2.out.ext 0 (.bool false) rfl
  have q1 := K2.out.ext 1 (.bool false) rfl
  have q2 := K2.out.ext 2 (.bool false) rfl
  have q3 := K2.out.ext 3 (.bool true) rfl
  have q4 := K2.out.ext 4 (.bool ch) rfl
  have q5 := K2.out.ext 5 (.bool inc) rfl
  have hne := Ext.one w2
  go_upto_region 5 with (fail)
  refine region_plain (w1 := w2) (Below.refl _ _) ?_
  simp only [List.append_eq, List.cons_append, List.nil_append]
  repeat go_big_quiet_step (fail)
  refine wpQuiet_nil ?_
  rintro _ ⟨x, rfl⟩
  go_wp2_with fail
  go_ret
  exact ⟨rfl, B2.out.trans (x.ok.mono B2.out.size)⟩

set_option maxRecDepth 100000 in
set_option maxHeartbeats 2000000 in
theorem risesB0010 (ch inc : Bool) (old n a c : Int) (hc : c = 0)  (HA : ∀ w, Hid (Calls Try.prog 10 #[.agg #[.bool false, .bool false, .bool true, .bool false, .bool ch, .bool inc], .bool false, .int .i64 old, .int .i64 n] w fun e w' => e = .returned (.tuple #[.int .i64 a, .int .i64 1, .int .i64 c]) ∧ Below w.heap.size w w')) (w : World) :
    Calls Try.prog 7 #[.agg #[.bool false, .bool false, .bool true, .bool false, .bool ch, .bool inc], .bool false, .int .i64 old, .int .i64 n] w fun e w' => e = .returned (.bool true) ∧ Below w.heap.size w w' := by
  have HS := fun w => Lib.hid (shown_any w)
  subst hc
  go_enter Try.func7, Try.ntmps7
  go_wp2_with fail
  refine (HS _).out.mono ?_
  rintro e w1 ⟨rfl, hb1⟩
  have B1 := Lib.hid (((Below.refl _ _).alloc (Nat.le_refl _) _).trans (hb1.mono (by simp)))
  have K1 := Lib.hid ((Blk.new w 23 _).later hb1)
  clear hb1
  have c0 := K1.out.cell 0
  have c1 := K1.out.cell 1
  have c2 := K1.out.cell 2
  have c3 := K1.out.cell 3
  have c4 := K1.out.cell 4
  have c5 := K1.out.cell 5
  simp at c0 c1 c2 c3 c4 c5
  go_wp2_with fail
  refine (HA _).out.mono ?_
  rintro e w2 ⟨rfl, hb2⟩
  have B2 := Lib.hid (B1.out.trans (hb2.mono B1.out.size))
  have K2 := Lib.hid (K1.out.later hb2)
  clear K1 B1 hb2 c0 c1 c2 c3 c4 c5
  have q0 := K2.out.ext 0 (.bool false) rfl
  have q1 := K2.out.ext 1 (.bool false) rfl
  have q2 := K2.out.ext 2 (.bool true) rfl
  have q3 := K2.out.ext 3 (.bool false) rfl
  have q4 := K2.out.ext 4 (.bool ch) rfl
  have q5 := K2.out.ext 5 (.bool inc) rfl
  have hne := Ext.one w2
  go_upto_region 5 with (fail)
  refine region_plain (w1 := w2) (Below.refl _ _) ?_
  simp only [List.append_eq, List.cons_append, List.nil_append]
  repeat go_big_quiet_step (fail)
  refine wpQuiet_nil ?_
  rintro _ ⟨x, rfl⟩
  go_wp2_with fail
  go_ret
  exact ⟨rfl, B2.out.trans (x.ok.mono B2.out.size)⟩

set_option maxRecDepth 100000 in
set_option maxHeartbeats 2000000 in
theorem risesC0010 (ch inc : Bool) (old n a c : Int) (hc : c = 0) (ha : a = old) (HA : ∀ w, Hid (Calls Try.prog 10 #[.agg #[.bool false, .bool false, .bool true, .bool false, .bool ch, .bool inc], .bool true, .int .i64 old, .int .i64 n] w fun e w' => e = .returned (.tuple #[.int .i64 a, .int .i64 0, .int .i64 c]) ∧ Below w.heap.size w w')) (w : World) :
    Calls Try.prog 7 #[.agg #[.bool false, .bool false, .bool true, .bool false, .bool ch, .bool inc], .bool true, .int .i64 old, .int .i64 n] w fun e w' => e = .returned (.bool true) ∧ Below w.heap.size w w' := by
  have HS := fun w => Lib.hid (shown_any w)
  subst hc
  subst ha
  have e3 : decide (a ≤ a) = true := by simp
  have e4 : (a == a) = true := by simp
  go_enter Try.func7, Try.ntmps7
  go_wp2_with fail
  refine (HS _).out.mono ?_
  rintro e w1 ⟨rfl, hb1⟩
  have B1 := Lib.hid (((Below.refl _ _).alloc (Nat.le_refl _) _).trans (hb1.mono (by simp)))
  have K1 := Lib.hid ((Blk.new w 23 _).later hb1)
  clear hb1
  have c0 := K1.out.cell 0
  have c1 := K1.out.cell 1
  have c2 := K1.out.cell 2
  have c3 := K1.out.cell 3
  have c4 := K1.out.cell 4
  have c5 := K1.out.cell 5
  simp at c0 c1 c2 c3 c4 c5
  go_wp2_with fail
  refine (HA _).out.mono ?_
  rintro e w2 ⟨rfl, hb2⟩
  have B2 := Lib.hid (B1.out.trans (hb2.mono B1.out.size))
  have K2 := Lib.hid (K1.out.later hb2)
  clear K1 B1 hb2 c0 c1 c2 c3 c4 c5
  have q0 := K2.out.ext 0 (.bool false) rfl
  have q1 := K2.out.ext 1 (.bool false) rfl
  have q2 := K2.out.ext 2 (.bool true) rfl
  have q3 := K2.out.ext 3 (.bool false) rfl
  have q4 := K2.out.ext 4 (.bool ch) rfl
  have q5 := K2.out.ext 5 (.bool inc) rfl
  have hne := Ext.one w2
  go_upto_region 5 with (fail)
  refine region_plain (w1 := w2) (Below.refl _ _) ?_
  simp only [List.append_eq, List.cons_append, List.nil_append]
  repeat go_big_quiet_step (fail)
  refine wpQuiet_nil ?_
  rintro _ ⟨x, rfl⟩
  go_wp2_with fail
  go_ret
  exact ⟨rfl, B2.out.trans (x.ok.mono B2.out.size)⟩

set_option maxRecDepth 100000 in
set_option maxHeartbeats 2000000 in
theorem risesD0010 (ch inc : Bool) (old n a c : Int) (hc : c = 0) (hne : a ≠ old) (hg : old < a) (HA : ∀ w, Hid (Calls Try.prog 10 #[.agg #[.bool false, .bool false, .bool true, .bool false, .bool ch, .bool inc], .bool true, .int .i64 old, .int .i64 n] w fun e w' => e = .returned (.tuple #[.int .i64 a, .int .i64 2, .int .i64 c]) ∧ Below w.heap.size w w')) (w : World) :
    Calls Try.prog 7 #[.agg #[.bool false, .bool false, .bool true, .bool false, .bool ch, .bool inc], .bool true, .int .i64 old, .int .i64 n] w fun e w' => e = .returned (.bool true) ∧ Below w.heap.size w w' := by
  have HS := fun w => Lib.hid (shown_any w)
  subst hc
  have e1 : (a != old) = true := by simpa using hne
  have e2 : (a == old) = false := by simpa using hne
  clear hne
  have e3 : decide (old ≤ a) = true := decide_eq_true (by omega)
  clear hg
  go_enter Try.func7, Try.ntmps7
  go_wp2_with fail
  refine (HS _).out.mono ?_
  rintro e w1 ⟨rfl, hb1⟩
  have B1 := Lib.hid (((Below.refl _ _).alloc (Nat.le_refl _) _).trans (hb1.mono (by simp)))
  have K1 := Lib.hid ((Blk.new w 23 _).later hb1)
  clear hb1
  have c0 := K1.out.cell 0
  have c1 := K1.out.cell 1
  have c2 := K1.out.cell 2
  have c3 := K1.out.cell 3
  have c4 := K1.out.cell 4
  have c5 := K1.out.cell 5
  simp at c0 c1 c2 c3 c4 c5
  go_wp2_with fail
  refine (HA _).out.mono ?_
  rintro e w2 ⟨rfl, hb2⟩
  have B2 := Lib.hid (B1.out.trans (hb2.mono B1.out.size))
  have K2 := Lib.hid (K1.out.later hb2)
  clear K1 B1 hb2 c0 c1 c2 c3 c4 c5
  have q0 := K2.out.ext 0 (.bool false) rfl
  have q1 := K2.out.ext 1 (.bool false) rfl
  have q2 := K2.out.ext 2 (.bool true) rfl
  have q3 := K2.out.ext 3 (.bool false) rfl
  have q4 := K2.out.ext 4 (.bool ch) rfl
  have q5 := K2.out.ext 5 (.bool inc) rfl
  have hne := Ext.one w2
  go_upto_region 5 with (fail)
  refine region_plain (w1 := w2) (Below.refl _ _) ?_
  simp only [List.append_eq, List.cons_append, List.nil_append]
  repeat go_big_quiet_step (fail)
  refine wpQuiet_nil ?_
  rintro _ ⟨x, rfl⟩
  go_wp2_with fail
  go_ret
  exact ⟨rfl, B2.out.trans (x.ok.mono B2.out.size)⟩

set_option maxRecDepth 100000 in
set_option maxHeartbeats 2000000 in
theorem risesA0100 (ch inc : Bool) (old n a c : Int) (hc : c = 0)  (HA : ∀ w, Hid (Calls Try.prog 10 #[.agg #[.bool false, .bool true, .bool false, .bool false, .bool ch, .bool inc], .bool false, .int .i64 old, .int .i64 n] w fun e w' => e = .returned (.tuple #[.int .i64 a, .int .i64 0, .int .i64 c]) ∧ Below w.heap.size w w')) (w : World) :
    Calls Try.prog 7 #[.agg #[.bool false, .bool true, .bool false, .bool false, .bool ch, .bool inc], .bool false, .int .i64 old, .int .i64 n] w fun e w' => e = .returned (.bool true) ∧ Below w.heap.size w w' := by
  have HS := fun w => Lib.hid (shown_any w)
  subst hc
  go_enter Try.func7, Try.ntmps7
  go_wp2_with fail
  refine (HS _).out.mono ?_
  rintro e w1 ⟨rfl, hb1⟩
  have B1 := Lib.hid (((Below.refl _ _).alloc (Nat.le_refl _) _).trans (hb1.mono (by simp)))
  have K1 := Lib.hid ((Blk.new w 23 _).later hb1)
  clear hb1
  have c0 := K1.out.cell 0
  have c1 := K1.out.cell 1
  have c2 := K1.out.cell 2
  have c3 := K1.out.cell 3
  have c4 := K1.out.cell 4
  have c5 := K1.out.cell 5
  simp at c0 c1 c2 c3 c4 c5
  go_wp2_with fail
  refine (HA _).out.mono ?_
  rintro e w2 ⟨rfl, hb2⟩
  have B2 := Lib.hid (B1.out.trans (hb2.mono B1.out.size))
  have K2 := Lib.hid (K1.out.later hb2)
  clear K1 B1 hb2 c0 c1 c2 c3 c4 c5
  have q0 := K2.out.ext 0 (.bool false) rfl
  have q1 := K2.out.ext 1 (.bool true) rfl
  have q2 := K2.out.ext 2 (.bool false) rfl
  have q3 := K2.out.ext 3 (.bool false) rfl
  have q4 := K2.out.ext 4 (.bool ch) rfl
  have q5 := K2.out.ext 5 (.bool inc) rfl
  have hne := Ext.one w2
  go_upto_region 5 with (fail)
  refine region_plain (w1 := w2) (Below.refl _ _) ?_
  simp only [List.append_eq, List.cons_append, List.nil_append]
  repeat go_big_quiet_step (fail)
  refine wpQuiet_nil ?_
  rintro _ ⟨x, rfl⟩
  go_wp2_with fail
  go_ret
  exact ⟨rfl, B2.out.trans (x.ok.mono B2.out.size)⟩

set_option maxRecDepth 100000 in
set_option maxHeartbeats 2000000 in
theorem risesC0100 (ch inc : Bool) (old n a c : Int) (hc : c = 0) (ha : a = old) (HA : ∀ w, Hid (Calls Try.prog 10 #[.agg #[.bool false, .bool true, .bool false, .bool false, .bool ch, .bool inc], .bool true, .int .i64 old, .int .i64 n] w fun e w' => e = .returned (.tuple #[.int .i64 a, .int .i64 0, .int .i64 c]) ∧ Below w.heap.size w w')) (w : World) :
    Calls Try.prog 7 #[.agg #[.bool false, .bool true, .bool false, .bool false, .bool ch, .bool inc], .bool true, .int .i64 old, .int .i64 n] w fun e w' => e = .returned (.bool true) ∧ Below w.heap.size w w' := by
  have HS := fun w => Lib.hid (shown_any w)
  subst hc
  subst ha
  have e3 : decide (a ≤ a) = true := by simp
  have e4 : (a == a) = true := by simp
  go_enter Try.func7, Try.ntmps7
  go_wp2_with fail
  refine (HS _).out.mono ?_
  rintro e w1 ⟨rfl, hb1⟩
  have B1 := Lib.hid (((Below.refl _ _).alloc (Nat.le_refl _) _).trans (hb1.mono (by simp)))
  have K1 := Lib.hid ((Blk.new w 23 _).later hb1)
  clear hb1
  have c0 := K1.out.cell 0
  have c1 := K1.out.cell 1
  have c2 := K1.out.cell 2
  have c3 := K1.out.cell 3
  have c4 := K1.out.cell 4
  have c5 := K1.out.cell 5
  simp at c0 c1 c2 c3 c4 c5
  go_wp2_with fail
  refine (HA _).out.mono ?_
  rintro e w2 ⟨rfl, hb2⟩
  have B2 := Lib.hid (B1.out.trans (hb2.mono B1.out.size))
  have K2 := Lib.hid (K1.out.later hb2)
  clear K1 B1 hb2 c0 c1 c2 c3 c4 c5
  have q0 := K2.out.ext 0 (.bool false) rfl
  have q1 := K2.out.ext 1 (.bool true) rfl
  have q2 := K2.out.ext 2 (.bool false) rfl
  have q3 := K2.out.ext 3 (.bool false) rfl
  have q4 := K2.out.ext 4 (.bool ch) rfl
  have q5 := K2.out.ext 5 (.bool inc) rfl
  have hne := Ext.one w2
  go_upto_region 5 with (fail)
  refine region_plain (w1 := w2) (Below.refl _ _) ?_
  simp only [List.append_eq, List.cons_append, List.nil_append]
  repeat go_big_quiet_step (fail)
  refine wpQuiet_nil ?_
  rintro _ ⟨x, rfl⟩
  go_wp2_with fail
  go_ret
  exact ⟨rfl, B2.out.trans (x.ok.mono B2.out.size)⟩

set_option maxRecDepth 100000 in
set_option maxHeartbeats 2000000 in
theorem risesD0100 (ch inc : Bool) (old n a c : Int) (hc : c = 0) (hne : a ≠ old) (HA : ∀ w, Hid (Calls Try.prog 10 #[.agg #[.bool false, .bool true, .bool false, .bool false, .bool ch, .bool inc], .bool true, .int .i64 old, .int .i64 n] w fun e w' => e = .returned (.tuple #[.int .i64 a, .int .i64 2, .int .i64 c]) ∧ Below w.heap.size w w')) (w : World) :
    Calls Try.prog 7 #[.agg #[.bool false, .bool true, .bool false, .bool false, .bool ch, .bool inc], .bool true, .int .i64 old, .int .i64 n] w fun e w' => e = .returned (.bool true) ∧ Below w.heap.size w w' := by
  have HS := fun w => Lib.hid (shown_any w)
  subst hc
  have e1 : (a != old) = true := by simpa using hne
  have e2 : (a == old) = false := by simpa using hne
  clear hne
  go_enter Try.func7, Try.ntmps7
  go_wp2_with fail
  refine (HS _).out.mono ?_
  rintro e w1 ⟨rfl, hb1⟩
  have B1 := Lib.hid (((Below.refl _ _).alloc (Nat.le_refl _) _).trans (hb1.mono (by simp)))
  have K1 := Lib.hid ((Blk.new w 23 _).later hb1)
  clear hb1
  have c0 := K1.out.cell 0
  have c1 := K1.out.cell 1
  have c2 := K1.out.cell 2
  have c3 := K1.out.cell 3
  have c4 := K1.out.cell 4
  have c5 := K1.out.cell 5
  simp at c0 c1 c2 c3 c4 c5
  go_wp2_with fail
  refine (HA _).out.mono ?_
  rintro e w2 ⟨rfl, hb2⟩
  have B2 := Lib.hid (B1.out.trans (hb2.mono B1.out.size))
  have K2 := Lib.hid (K1.out.later hb2)
  clear K1 B1 hb2 c0 c1 c2 c3 c4 c5
  have q0 := K2.out.ext 0 (.bool false) rfl
  have q1 := K2.out.ext 1 (.bool true) rfl
  have q2 := K2.out.ext 2 (.bool false) rfl
  have q3 := K2.out.ext 3 (.bool false) rfl
  have q4 := K2.out.ext 4 (.bool ch) rfl
  have q5 := K2.out.ext 5 (.bool inc) rfl
  have hne := Ext.one w2
  go_upto_region 5 with (fail)
  refine region_plain (w1 := w2) (Below.refl _ _) ?_
  simp only [List.append_eq, List.cons_append, List.nil_append]
  repeat go_big_quiet_step (fail)
  refine wpQuiet_nil ?_
  rintro _ ⟨x, rfl⟩
  go_wp2_with fail
  go_ret
  exact ⟨rfl, B2.out.trans (x.ok.mono B2.out.size)⟩

set_option maxRecDepth 100000 in
set_option maxHeartbeats 2000000 in
theorem risesA0101 (ch inc : Bool) (old n a c : Int) (hc : c = 0)  (HA : ∀ w, Hid (Calls Try.prog 10 #[.agg #[.bool false, .bool true, .bool false, .bool true, .bool ch, .bool inc], .bool false, .int .i64 old, .int .i64 n] w fun e w' => e = .returned (.tuple #[.int .i64 a, .int .i64 0, .int .i64 c]) ∧ Below w.heap.size w w')) (w : World) :
    Calls Try.prog 7 #[.agg #[.bool false, .bool true, .bool false, .bool true, .bool ch, .bool inc], .bool false, .int .i64 old, .int .i64 n] w fun e w' => e = .returned (.bool true) ∧ Below w.heap.size w w' := by
  have HS := fun w => Lib.hid (shown_any w)
  subst hc
  go_enter Try.func7, Try.ntmps7
  go_wp2_with fail
  refine (HS _).out.mono ?_
  rintro e w1 ⟨rfl, hb1⟩
  have B1 := Lib.hid (((Below.refl _ _).alloc (Nat.le_refl _) _).trans (hb1.mono (by simp)))
  have K1 := Lib.hid ((Blk.new w 23 _).later hb1)
  clear hb1
  have c0 := K1.out.cell 0
  have c1 := K1.out.cell 1
  have c2 := K1.out.cell 2
  have c3 := K1.out.cell 3
  have c4 := K1.out.cell 4
  have c5 := K1.out.cell 5
  simp at c0 c1 c2 c3 c4 c5
  go_wp2_with fail
  refine (HA _).out.mono ?_
  rintro e w2 ⟨rfl, hb2⟩
  have B2 := Lib.hid (B1.out.trans (hb2.mono B1.out.size))
  have K2 := Lib.hid (K1.out.later hb2)
  clear K1 B1 hb2 c0 c1 c2 c3 c4 c5
  have q0 := K2.out.ext 0 (.bool false) rfl
  have q1 := K2.out.ext 1 (.bool true) rfl
  have q2 := K2.out.ext 2 (.bool false) rfl
  have q3 := K2.out.ext 3 (.bool true) rfl
  have q4 := K2.out.ext 4 (.bool ch) rfl
  have q5 := K2.out.ext 5 (.bool inc) rfl
  have hne := Ext.one w2
  go_upto_region 5 with (fail)
  refine region_plain (w1 := w2) (Below.refl _ _) ?_
  simp only [List.append_eq, List.cons_append, List.nil_append]
  repeat go_big_quiet_step (fail)
  refine wpQuiet_nil ?_
  rintro _ ⟨x, rfl⟩
  go_wp2_with fail
  go_ret
  exact ⟨rfl, B2.out.trans (x.ok.mono B2.out.size)⟩

set_option maxRecDepth 100000 in
set_option maxHeartbeats 2000000 in
theorem risesC0101 (ch inc : Bool) (old n a c : Int) (hc : c = 0) (ha : a = old) (HA : ∀ w, Hid (Calls Try.prog 10 #[.agg #[.bool false, .bool true, .bool false, .bool true, .bool ch, .bool inc], .bool true, .int .i64 old, .int .i64 n] w fun e w' => e = .returned (.tuple #[.int .i64 a, .int .i64 0, .int .i64 c]) ∧ Below w.heap.size w w')) (w : World) :
    Calls Try.prog 7 #[.agg #[.bool false, .bool true, .bool false, .bool true, .bool ch, .bool inc], .bool true, .int .i64 old, .int .i64 n] w fun e w' => e = .returned (.bool true) ∧ Below w.heap.size w w' := by
  have HS := fun w => Lib.hid (shown_any w)
  subst hc
  subst ha
  have e3 : decide (a ≤ a) = true := by simp
  have e4 : (a == a) = true := by simp
  go_enter Try.func7, Try.ntmps7
  go_wp2_with fail
  refine (HS _).out.mono ?_
  rintro e w1 ⟨rfl, hb1⟩
  have B1 := Lib.hid (((Below.refl _ _).alloc (Nat.le_refl _) _).trans (hb1.mono (by simp)))
  have K1 := Lib.hid ((Blk.new w 23 _).later hb1)
  clear hb1
  have c0 := K1.out.cell 0
  have c1 := K1.out.cell 1
  have c2 := K1.out.cell 2
  have c3 := K1.out.cell 3
  have c4 := K1.out.cell 4
  have c5 := K1.out.cell 5
  simp at c0 c1 c2 c3 c4 c5
  go_wp2_with fail
  refine (HA _).out.mono ?_
  rintro e w2 ⟨rfl, hb2⟩
  have B2 := Lib.hid (B1.out.trans (hb2.mono B1.out.size))
  have K2 := Lib.hid (K1.out.later hb2)
  clear K1 B1 hb2 c0 c1 c2 c3 c4 c5
  have q0 := K2.out.ext 0 (.bool false) rfl
  have q1 := K2.out.ext 1 (.bool true) rfl
  have q2 := K2.out.ext 2 (.bool false) rfl
  have q3 := K2.out.ext 3 (.bool true) rfl
  have q4 := K2.out.ext 4 (.bool ch) rfl
  have q5 := K2.out.ext 5 (.bool inc) rfl
  have hne := Ext.one w2
  go_upto_region 5 with (fail)
  refine region_plain (w1 := w2) (Below.refl _ _) ?_
  simp only [List.append_eq, List.cons_append, List.nil_append]
  repeat go_big_quiet_step (fail)
  refine wpQuiet_nil ?_
  rintro _ ⟨x, rfl⟩
  go_wp2_with fail
  go_ret
  exact ⟨rfl, B2.out.trans (x.ok.mono B2.out.size)⟩

set_option maxRecDepth 100000 in
set_option maxHeartbeats 2000000 in
theorem risesD0101 (ch inc : Bool) (old n a c : Int) (hc : c = 0) (hne : a ≠ old) (hl : a < old) (HA : ∀ w, Hid (Calls Try.prog 10 #[.agg #[.bool false, .bool true, .bool false, .bool true, .bool ch, .bool inc], .bool true, .int .i64 old, .int .i64 n] w fun e w' => e = .returned (.tuple #[.int .i64 a, .int .i64 2, .int .i64 c]) ∧ Below w.heap.size w w')) (w : World) :
    Calls Try.prog 7 #[.agg #[.bool false, .bool true, .bool false, .bool true, .bool ch, .bool inc], .bool true, .int .i64 old, .int .i64 n] w fun e w' => e = .returned (.bool true) ∧ Below w.heap.size w w' := by
  have HS := fun w => Lib.hid (shown_any w)
  subst hc
  have e1 : (a != old) = true := by simpa using hne
  have e2 : (a == old) = false := by simpa using hne
  clear hne
  have e3 : decide (a ≤ old) = true := decide_eq_true (by omega)
  clear hl
  go_enter Try.func7, Try.ntmps7
  go_wp2_with fail
  refine (HS _).out.mono ?_
  rintro e w1 ⟨rfl, hb1⟩
  have B1 := Lib.hid (((Below.refl _ _).alloc (Nat.le_refl _) _).trans (hb1.mono (by simp)))
  have K1 := Lib.hid ((Blk.new w 23 _).later hb1)
  clear hb1
  have c0 := K1.out.cell 0
  have c1 := K1.out.cell 1
  have c2 := K1.out.cell 2
  have c3 := K1.out.cell 3
  have c4 := K1.out.cell 4
  have c5 := K1.out.cell 5
  simp at c0 c1 c2 c3 c4 c5
  go_wp2_with fail
  refine (HA _).out.mono ?_
  rintro e w2 ⟨rfl, hb2⟩
  have B2 := Lib.hid (B1.out.trans (hb2.mono B1.out.size))
  have K2 := Lib.hid (K1.out.later hb2)
  clear K1 B1 hb2 c0 c1 c2 c3 c4 c5
  have q0 := K2.out.ext 0 (.bool false) rfl
  have q1 := K2.out.ext 1 (.bool true) rfl
  have q2 := K2.out.ext 2 (.bool false) rfl
  have q3 := K2.out.ext 3 (.bool true) rfl
  have q4 := K2.out.ext 4 (.bool ch) rfl
  have q5 := K2.out.ext 5 (.bool inc) rfl
  have hne := Ext.one w2
  go_upto_region 5 with (fail)
  refine region_plain (w1 := w2) (Below.refl _ _) ?_
  simp only [List.append_eq, List.cons_append, List.nil_append]
  repeat go_big_quiet_step (fail)
  refine wpQuiet_nil ?_
  rintro _ ⟨x, rfl⟩
  go_wp2_with fail
  go_ret
  exact ⟨rfl, B2.out.trans (x.ok.mono B2.out.size)⟩

set_option maxRecDepth 100000 in
set_option maxHeartbeats 2000000 in
theorem risesA0110 (ch inc : Bool) (old n a c : Int) (hc : c = 0)  (HA : ∀ w, Hid (Calls Try.prog 10 #[.agg #[.bool false, .bool true, .bool true, .bool false, .bool ch, .bool inc], .bool false, .int .i64 old, .int .i64 n] w fun e w' => e = .returned (.tuple #[.int .i64 a, .int .i64 0, .int .i64 c]) ∧ Below w.heap.size w w')) (w : World) :
    Calls Try.prog 7 #[.agg #[.bool false, .bool true, .bool true, .bool false, .bool ch, .bool inc], .bool false, .int .i64 old, .int .i64 n] w fun e w' => e = .returned (.bool true) ∧ Below w.heap.size w w' := by
  have HS := fun w => Lib.hid (shown_any w)
  subst hc
  go_enter Try.func7, Try.ntmps7
  go_wp2_with fail
  refine (HS _).out.mono ?_
  rintro e w1 ⟨rfl, hb1⟩
  have B1 := Lib.hid (((Below.refl _ _).alloc (Nat.le_refl _) _).trans (hb1.mono (by simp)))
  have K1 := Lib.hid ((Blk.new w 23 _).later hb1)
  clear hb1
  have c0 := K1.out.cell 0
  have c1 := K1.out.cell 1
  have c2 := K1.out.cell 2
  have c3 := K1.out.cell 3
  have c4 := K1.out.cell 4
  have c5 := K1.out.cell 5
  simp at c0 c1 c2 c3 c4 c5
  go_wp2_with fail
  refine (HA _).out.mono ?_
  rintro e w2 ⟨rfl, hb2⟩
  have B2 := Lib.hid (B1.out.trans (hb2.mono B1.out.size))
  have K2 := Lib.hid (K1.out.later hb2)
  clear K1 B1 hb2 c0 c1 c2 c3 c4 c5
  have q0 := K2.out.ext 0 (.bool false) rfl
  have q1 := K2.out.ext 1 (.bool true) rfl
  have q2 := K2.out.ext 2 (.bool true) rfl
  have q3 := K2.out.ext 3 (.bool false) rfl
  have q4 := K2.out.ext 4 (.bool ch) rfl
  have q5 := K2.out.ext 5 (.bool inc) rfl
  have hne := Ext.one w2
  go_upto_region 5 with (fail)
  refine region_plain (w1 := w2) (Below.refl _ _) ?_
  simp only [List.append_eq, List.cons_append, List.nil_append]
  repeat go_big_quiet_step (fail)
  refine wpQuiet_nil ?_
  rintro _ ⟨x, rfl⟩
  go_wp2_with fail
  go_ret
  exact ⟨rfl, B2.out.trans (x.ok.mono B2.out.size)⟩

set_option maxRecDepth 100000 in
set_option maxHeartbeats 2000000 in
theorem risesC0110 (ch inc : Bool) (old n a c : Int) (hc : c = 0) (ha : a = old) (HA : ∀ w, Hid (Calls Try.prog 10 #[.agg #[.bool false, .bool true, .bool true, .bool false, .bool ch, .bool inc], .bool true, .int .i64 old, .int .i64 n] w fun e w' => e = .returned (.tuple #[.int .i64 a, .int .i64 0, .int .i64 c]) ∧ Below w.heap.size w w')) (w : World) :
    Calls Try.prog 7 #[.agg #[.bool false, .bool true, .bool true, .bool false, .bool ch, .bool inc], .bool true, .int .i64 old, .int .i64 n] w fun e w' => e = .returned (.bool true) ∧ Below w.heap.size w w' := by
  have HS := fun w => Lib.hid (shown_any w)
  subst hc
  subst ha
  have e3 : decide (a ≤ a) = true := by simp
  have e4 : (a == a) = true := by simp
  go_enter Try.func7, Try.ntmps7
  go_wp2_with fail
  refine (HS _).out.mono ?_
  rintro e w1 ⟨rfl, hb1⟩
  have B1 := Lib.hid (((Below.refl _ _).alloc (Nat.le_refl _) _).trans (hb1.mono (by simp)))
  have K1 := Lib.hid ((Blk.new w 23 _).later hb1)
  clear hb1
  have c0 := K1.out.cell 0
  have c1 := K1.out.cell 1
  have c2 := K1.out.cell 2
  have c3 := K1.out.cell 3
  have c4 := K1.out.cell 4
  have c5 := K1.out.cell 5
  simp at c0 c1 c2 c3 c4 c5
  go_wp2_with fail
  refine (HA _).out.mono ?_
  rintro e w2 ⟨rfl, hb2⟩
  have B2 := Lib.hid (B1.out.trans (hb2.mono B1.out.size))
  have K2 := Lib.hid (K1.out.later hb2)
  clear K1 B1 hb2 c0 c1 c2 c3 c4 c5
  have q0 := K2.out.ext 0 (.bool false) rfl
  have q1 := K2.out.ext 1 (.bool true) rfl
  have q2 := K2.out.ext 2 (.bool true) rfl
  have q3 := K2.out.ext 3 (.bool false) rfl
  have q4 := K2.out.ext 4 (.bool ch) rfl
  have q5 := K2.out.ext 5 (.bool inc) rfl
  have hne := Ext.one w2
  go_upto_region 5 with (fail)
  refine region_plain (w1 := w2) (Below.refl _ _) ?_
  simp only [List.append_eq, List.cons_append, List.nil_append]
  repeat go_big_quiet_step (fail)
  refine wpQuiet_nil ?_
  rintro _ ⟨x, rfl⟩
  go_wp2_with fail
  go_ret
  exact ⟨rfl, B2.out.trans (x.ok.mono B2.out.size)⟩

set_option maxRecDepth 100000 in
set_option maxHeartbeats 2000000 in
theorem risesD0110 (ch inc : Bool) (old n a c : Int) (hc : c = 0) (hne : a ≠ old) (hg : old < a) (HA : ∀ w, Hid (Calls Try.prog 10 #[.agg #[.bool false, .bool true, .bool true, .bool false, .bool ch, .bool inc], .bool true, .int .i64 old, .int .i64 n] w fun e w' => e = .returned (.tuple #[.int .i64 a, .int .i64 2, .int .i64 c]) ∧ Below w.heap.size w w')) (w : World) :
    Calls Try.prog 7 #[.agg #[.bool false, .bool true, .bool true, .bool false, .bool ch, .bool inc], .bool true, .int .i64 old, .int .i64 n] w fun e w' => e = .returned (.bool true) ∧ Below w.heap.size w w' := by
  have HS := fun w => Lib.hid (shown_any w)
  subst hc
  have e1 : (a != old) = true := by simpa using hne
  have e2 : (a == old) = false := by simpa using hne
  clear hne
  have e3 : decide (old ≤ a) = true := decide_eq_true (by omega)
  clear hg
  go_enter Try.func7, Try.ntmps7
  go_wp2_with fail
  refine (HS _).out.mono ?_
  rintro e w1 ⟨rfl, hb1⟩
  have B1 := Lib.hid (((Below.refl _ _).alloc (Nat.le_refl _) _).trans (hb1.mono (by simp)))
  have K1 := Lib.hid ((Blk.new w 23 _).later hb1)
  clear hb1
  have c0 := K1.out.cell 0
  have c1 := K1.out.cell 1
  have c2 := K1.out.cell 2
  have c3 := K1.out.cell 3
  have c4 := K1.out.cell 4
  have c5 := K1.out.cell 5
  simp at c0 c1 c2 c3 c4 c5
  go_wp2_with fail
  refine (HA _).out.mono ?_
  rintro e w2 ⟨rfl, hb2⟩
  have B2 := Lib.hid (B1.out.trans (hb2.mono B1.out.size))
  have K2 := Lib.hid (K1.out.later hb2)
  clear K1 B1 hb2 c0 c1 c2 c3 c4 c5
  have q0 := K2.out.ext 0 (.bool false) rfl
  have q1 := K2.out.ext 1 (.bool true) rfl
  have q2 := K2.out.ext 2 (.bool true) rfl
  have q3 := K2.out.ext 3 (.bool false) rfl
  have q4 := K2.out.ext 4 (.bool ch) rfl
  have q5 := K2.out.ext 5 (.bool inc) rfl
  have hne := Ext.one w2
  go_upto_region 5 with (fail)
  refine region_plain (w1 := w2) (Below.refl _ _) ?_
  simp only [List.append_eq, List.cons_append, List.nil_append]
  repeat go_big_quiet_step (fail)
  refine wpQuiet_nil ?_
  rintro _ ⟨x, rfl⟩
  go_wp2_with fail
  go_ret
  exact ⟨rfl, B2.out.trans (x.ok.mono B2.out.size)⟩

set_option maxRecDepth 100000 in
set_option maxHeartbeats 2000000 in
theorem risesB1000 (ch inc : Bool) (old n a c : Int) (hc : c = 0)  (HA : ∀ w, Hid (Calls Try.prog 10 #[.agg #[.bool true, .bool false, .bool false, .bool false, .bool ch, .bool inc], .bool false, .int .i64 old, .int .i64 n] w fun e w' => e = .returned (.tuple #[.int .i64 a, .int .i64 1, .int .i64 c]) ∧ Below w.heap.size w w')) (w : World) :
    Calls Try.prog 7 #[.agg #[.bool true, .bool false, .bool false, .bool false, .bool ch, .bool inc], .bool false, .int .i64 old, .int .i64 n] w fun e w' => e = .returned (.bool true) ∧ Below w.heap.size w w' := by
  have HS := fun w => Lib.hid (shown_any w)
  subst hc
  go_enter Try.func7, Try.ntmps7
  go_wp2_with fail
  refine (HS _).out.mono ?_
  rintro e w1 ⟨rfl, hb1⟩
  have B1 := Lib.hid (((Below.refl _ _).alloc (Nat.le_refl _) _).trans (hb1.mono (by simp)))
  have K1 := Lib.hid ((Blk.new w 23 _).later hb1)
  clear hb1
  have c0 := K1.out.cell 0
  have c1 := K1.out.cell 1
  have c2 := K1.out.cell 2
  have c3 := K1.out.cell 3
  have c4 := K1.out.cell 4
  have c5 := K1.out.cell 5
  simp at c0 c1 c2 c3 c4 c5
  go_wp2_with fail
  refine (HA _).out.mono ?_
  rintro e w2 ⟨rfl, hb2⟩
  have B2 := Lib.hid (B1.out.trans (hb2.mono B1.out.size))
  have K2 := Lib.hid (K1.out.later hb2)
  clear K1 B1 hb2 c0 c1 c2 c3 c4 c5
  have q0 := K2.out.ext 0 (.bool true) rfl
  have q1 := K2.out.ext 1 (.bool false) rfl
  have q2 := K2.out.ext 2 (.bool false) rfl
  have q3 := K2.out.ext 3 (.bool false) rfl
  have q4 := K2.out.ext 4 (.bool ch) rfl
  have q5 := K2.out.ext 5 (.bool inc) rfl
  have hne := Ext.one w2
  go_upto_region 5 with (fail)
  refine region_plain (w1 := w2) (Below.refl _ _) ?_
  simp only [List.append_eq, List.cons_append, List.nil_append]
  repeat go_big_quiet_step (fail)
  refine wpQuiet_nil ?_
  rintro _ ⟨x, rfl⟩
  go_wp2_with fail
  go_ret
  exact ⟨rfl, B2.out.trans (x.ok.mono B2.out.size)⟩

set_option maxRecDepth 100000 in
set_option maxHeartbeats 2000000 in
theorem risesC1000 (ch inc : Bool) (old n a c : Int) (hc : c = 0) (ha : a = old) (HA : ∀ w, Hid (Calls Try.prog 10 #[.agg #[.bool true, .bool false, .bool false, .bool false, .bool ch, .bool inc], .bool true, .int .i64 old, .int .i64 n] w fun e w' => e = .returned (.tuple #[.int .i64 a, .int .i64 0, .int .i64 c]) ∧ Below w.heap.size w w')) (w : World) :
    Calls Try.prog 7 #[.agg #[.bool true, .bool false, .bool false, .bool false, .bool ch, .bool inc], .bool true, .int .i64 old, .int .i64 n] w fun e w' => e = .returned (.bool true) ∧ Below w.heap.size w w' := by
  have HS := fun w => Lib.hid (shown_any w)
  subst hc
  subst ha
  have e3 : decide (a ≤ a) = true := by simp
  have e4 : (a == a) = true := by simp
  go_enter Try.func7, Try.ntmps7
  go_wp2_with fail
  refine (HS _).out.mono ?_
  rintro e w1 ⟨rfl, hb1⟩
  have B1 := Lib.hid (((Below.refl _ _).alloc (Nat.le_refl _) _).trans (hb1.mono (by simp)))
  have K1 := Lib.hid ((Blk.new w 23 _).later hb1)
  clear hb1
  have c0 := K1.out.cell 0
  have c1 := K1.out.cell 1
  have c2 := K1.out.cell 2
  have c3 := K1.out.cell 3
  have c4 := K1.out.cell 4
  have c5 := K1.out.cell 5
  simp at c0 c1 c2 c3 c4 c5
  go_wp2_with fail
  refine (HA _).out.mono ?_
  rintro e w2 ⟨rfl, hb2⟩
  have B2 := Lib.hid (B1.out.trans (hb2.mono B1.out.size))
  have K2 := Lib.hid (K1.out.later hb2)
  clear K1 B1 hb2 c0 c1 c2 c3 c4 c5
  have q0 := K2.out.ext 0 (.bool true) rfl
  have q1 := K2.out.ext 1 (.bool false) rfl
  have q2 := K2.out.ext 2 (.bool false) rfl
  have q3 := K2.out.ext 3 (.bool false) rfl
  have q4 := K2.out.ext 4 (.bool ch) rfl
  have q5 := K2.out.ext 5 (.bool inc) rfl
  have hne := Ext.one w2
  go_upto_region 5 with (fail)
  refine region_plain (w1 := w2) (Below.refl _ _) ?_
  simp only [List.append_eq, List.cons_append, List.nil_append]
  repeat go_big_quiet_step (fail)
  refine wpQuiet_nil ?_
  rintro _ ⟨x, rfl⟩
  go_wp2_with fail
  go_ret
  exact ⟨rfl, B2.out.trans (x.ok.mono B2.out.size)⟩

set_option maxRecDepth 100000 in
set_option maxHeartbeats 2000000 in
theorem risesE (nx xx gt lt ch inc is : Bool) (old n a d c : Int) (hc : c ≠ 0) (HA : ∀ w, Hid (Calls Try.prog 10 #[.agg #[.bool nx, .bool xx, .bool gt, .bool lt, .bool ch, .bool inc], .bool is, .int .i64 old, .int .i64 n] w fun e w' => e = .returned (.tuple #[.int .i64 a, .int .i64 d, .int .i64 c]) ∧ Below w.heap.size w w')) (w : World) :
    Calls Try.prog 7 #[.agg #[.bool nx, .bool xx, .bool gt, .bool lt, .bool ch, .bool inc], .bool is, .int .i64 old, .int .i64 n] w fun e w' => e = .returned (.bool true) ∧ Below w.heap.size w w' := by
  have HS := fun w => Lib.hid (shown_any w)
  have e1 : (c != 0) = true := by simpa using hc
  have e2 : (c == 0) = false := by simpa using hc
  clear hc
  go_enter Try.func7, Try.ntmps7
  go_wp2_with fail
  refine (HS _).out.mono ?_
  rintro e w1 ⟨rfl, hb1⟩
  have B1 := Lib.hid (((Below.refl _ _).alloc (Nat.le_refl _) _).trans (hb1.mono (by simp)))
  have K1 := Lib.hid ((Blk.new w 23 _).later hb1)
  clear hb1
  have c0 := K1.out.cell 0
  have c1 := K1.out.cell 1
  have c2 := K1.out.cell 2
  have c3 := K1.out.cell 3
  have c4 := K1.out.cell 4
  have c5 := K1.out.cell 5
  simp at c0 c1 c2 c3 c4 c5
  go_wp2_with fail
  refine (HA _).out.mono ?_
  rintro e w2 ⟨rfl, hb2⟩
  have B2 := Lib.hid (B1.out.trans (hb2.mono B1.out.size))
  have K2 := Lib.hid (K1.out.later hb2)
  clear K1 B1 hb2 c0 c1 c2 c3 c4 c5
  have c0 := K2.out.cell 0
  have c1 := K2.out.cell 1
  have c2 := K2.out.cell 2
  have c3 := K2.out.cell 3
  have c4 := K2.out.cell 4
  have c5 := K2.out.cell 5
  simp at c0 c1 c2 c3 c4 c5
  go_wp2_with fail
  go_ret
  exact ⟨rfl, B2.out⟩

/-- FlagsRises. -/
theorem rises_walk (f : Fl) (is : Bool) (old n : Int) (h1 : I64 old) (h2 : I64 n) (w : World) : Calls Try.prog 7 #[f.v, .bool is, .int .i64 old, .int .i64 n] w fun e w' => e = .returned (.bool true) ∧ Below w.heap.size w w' := by
  obtain ⟨a, d, c, hd⟩ : ∃ a d c, dec f is old n = (a, d, c) := ⟨_, _, _, rfl⟩
  have HA := fun w => Lib.hid (decide_any f is old n h1 h2 w)
  rw [decT_of hd] at HA
  have HD := dec_cases hd
  clear hd h1 h2
  obtain ⟨nx, xx, gt, lt, ch, inc⟩ := f
  simp only [Fl.v, Fl.c] at HA HD ⊢
  by_cases hc : c = 0
  · obtain ⟨hr, hd⟩ := HD hc
    clear HD
    rcases hd with ⟨rfl, rfl, rfl⟩ | ⟨rfl, rfl, rfl⟩ | ⟨rfl, rfl, ha⟩ | ⟨rfl, rfl, hne, rfl, hg, hl⟩
    · cases nx <;> cases gt <;> cases lt
      · exact risesA0100 ch inc old n a c hc HA w
      · exact risesA0101 ch inc old n a c hc HA w
      · exact risesA0110 ch inc old n a c hc HA w
      · simp [Fl.right] at hr
      · simp [Fl.right] at hr
      · simp [Fl.right] at hr
      · simp [Fl.right] at hr
      · simp [Fl.right] at hr
    · cases nx <;> cases gt <;> cases lt
      · exact risesB0000 ch inc old n a c hc HA w
      · exact risesB0001 ch inc old n a c hc HA w
      · exact risesB0010 ch inc old n a c hc HA w
      · simp [Fl.right] at hr
      · exact risesB1000 ch inc old n a c hc HA w
      · simp [Fl.right] at hr
      · simp [Fl.right] at hr
      · simp [Fl.right] at hr
    · cases nx <;> cases xx <;> cases gt <;> cases lt
      · exact risesC0000 ch inc old n a c hc ha HA w
      · exact risesC0001 ch inc old n a c hc ha HA w
      · exact risesC0010 ch inc old n a c hc ha HA w
      · simp [Fl.right] at hr
      · exact risesC0100 ch inc old n a c hc ha HA w
      · exact risesC0101 ch inc old n a c hc ha HA w
      · exact risesC0110 ch inc old n a c hc ha HA w
      · simp [Fl.right] at hr
      · exact risesC1000 ch inc old n a c hc ha HA w
      · simp [Fl.right] at hr
      · simp [Fl.right] at hr
      · simp [Fl.right] at hr
      · simp [Fl.right] at hr
      · simp [Fl.right] at hr
      · simp [Fl.right] at hr
      · simp [Fl.right] at hr
    · cases xx <;> cases gt <;> cases lt
      · exact risesD0000 ch inc old n a c hc hne HA w
      · exact risesD0001 ch inc old n a c hc hne (hl rfl) HA w
      · exact risesD0010 ch inc old n a c hc hne (hg rfl) HA w
      · simp [Fl.right] at hr
      · exact risesD0100 ch inc old n a c hc hne HA w
      · exact risesD0101 ch inc old n a c hc hne (hl rfl) HA w
      · exact risesD0110 ch inc old n a c hc hne (hg rfl) HA w
      · simp [Fl.right] at hr
  · exact risesE nx xx gt lt ch inc is old n a d c hc HA w
end Go.Proofs.Ytnkgkimlmceciaa
