/- A use: whether it is right, its count at a minute, what it becomes. -/
import Derived.Test.YtpjggdmfgoajbaaBase
import Derived.Laws.StructEq
namespace Go.Proofs.Ytpjggdmfgoajbaa
open Go.RowKit Go.Shelf
attribute [local go_sem] Oper.semAt_some

def fieldC : Field := { name := "Count", type := 3, offset := 0, embedded := false, tag := "", pkgPath := "", byteOffset := 0 }
def fieldA : Field := { name := "At", type := 3, offset := 1, embedded := false, tag := "", pkgPath := "", byteOffset := 8 }
theorem under23 : Try.prog.underlying 23 = some (.struct #[fieldC, fieldA]) := Try.underlying23
theorem fields23 : Try.prog.fieldsOf 23 = #[fieldC, fieldA] := by unfold Program.fieldsOf; rw [under23]
theorem held23 : Try.prog.stoodInHeld 23 = false := by kernel_rfl
theorem guard23 : Try.prog.eqGuardType Try.prog.depth 23 = false := by kernel_rfl
theorem cells3 : Try.prog.cellsOf 3 = 1 := by kernel_rfl
def sameU (a b c d : Int) : Bool := a == c && b == d
theorem eq23 (c a c' a' : Int) (w : World) : (Op.equalIn 10000 23 (.agg #[.int .i64 c, .int .i64 a]) (.agg #[.int .i64 c', .int .i64 a'])).run Try.prog w = .ok (sameU c a c' a') w := by
  rw [show (10000 : Nat) = 9998 + 1 + 1 from rfl, run_equalIn_struct w _ _ _ _ (by rw [fields23]; exact under23) held23, fields23]
  have u3 := Try.underlying3
  unfold sameU
  cases h : c == c' <;> cases h2 : a == a' <;> simp_all [fieldC, fieldA, Op.eqFields, go_sem, part]
attribute [local go_sem high] eq23
attribute [local go_sem] guard23
def I64U (u : Use) : Prop := I64 u.1 ∧ I64 u.2
def rightB (u : Use) : Bool := decide (0 ≤ u.1 ∧ u.1 ≤ 255 ∧ 0 ≤ u.2)
def withinU (u : Use) : Use := (min (max u.1 0) 255, max u.2 0)
theorem within_eq (u : Use) : sameU u.1 u.2 (withinU u).1 (withinU u).2 = rightB u := by
  obtain ⟨c, a⟩ := u
  rw [Bool.eq_iff_iff]
  unfold rightB withinU sameU
  simp only [beq_iff_eq, decide_eq_true_eq, Bool.and_eq_true]
  omega
set_option maxRecDepth 100000 in
theorem within_any (u : Use) (h : I64U u) (w : World) : Calls Try.prog 24 #[valU u] w fun e w' => e = .returned (valU (withinU u)) ∧ Below w.heap.size w w' := by
  obtain ⟨c, a⟩ := u
  obtain ⟨⟨h1, h2⟩, ⟨h3, h4⟩⟩ := h
  unfold valU withinU
  simp only at *
  go_enter Try.func24, Try.ntmps24
  go_wp2
  all_goals
    refine bodyPost_ret (v := .agg #[.int .i64 (min (max c 0) 255), .int .i64 (max a 0)]) ?_ rfl ⟨rfl, ((Below.refl _ _).alloc (Nat.le_refl _) _).alloc (by simp) _⟩
    simp [results, Try.results24, go_sem]
    omega

set_option maxRecDepth 100000 in
theorem right_any (u : Use) (h : I64U u) (w : World) : Calls Try.prog 17 #[valU u] w fun e w' => e = .returned (.bool (rightB u)) ∧ Below w.heap.size w w' := by
  have HW := fun w => Lib.hid (within_any u h w)
  have HE := Lib.hid (within_eq u)
  obtain ⟨c, a⟩ := u
  generalize withinU (c, a) = v at *
  obtain ⟨c', a'⟩ := v
  unfold valU at *
  simp only at HW ⊢
  clear h
  go_enter Try.func17, Try.ntmps17
  have k0 := Blk.new w 23 #[.int .i64 c, .int .i64 a]
  have c0 := k0.ext 0 _ rfl
  have c1 := k0.ext 1 _ rfl
  have hne := Ext.one (w.alloc (.cells #[.int .i64 c, .int .i64 a] 23))
  clear k0
  go_wp2
  refine region_ext (by kernel_rfl) (by kernel_rfl) (Below.refl _ _) ?_
  repeat go_big_quiet_step ((go_at_call 24; exact Ext.call _ (HW _).out))
  refine wpQuiet_nil ?_
  rintro _ ⟨x, rfl⟩
  go_wp2
  go_ret
  exact ⟨ret_bool HE.out, ((Below.refl _ _).alloc (Nat.le_refl _) _).trans (x.ok.mono (by simp))⟩

set_option maxRecDepth 100000 in
theorem refRight_any (u : Use) (w : World) : Calls Try.prog 18 #[valU u] w fun e w' => e = .returned (.bool (rightB u)) ∧ Below w.heap.size w w' := by
  obtain ⟨c, a⟩ := u
  have H1 : c < 0 → Hid (false = rightB (c, a)) := fun h => Lib.hid (by unfold rightB; simp; omega)
  have H2 : 255 < c → Hid (false = rightB (c, a)) := fun h => Lib.hid (by unfold rightB; simp; omega)
  have H3 : 0 ≤ c → c ≤ 255 → Hid (decide (0 ≤ a) = rightB (c, a)) := fun h h2 => Lib.hid (by unfold rightB; simp [h, h2])
  generalize rightB (c, a) = r at *
  unfold valU
  simp only
  go_enter Try.func18, Try.ntmps18
  go_wp2
  all_goals go_ret
  all_goals refine ⟨ret_bool ?_, (Below.refl _ _).alloc (Nat.le_refl _) _⟩
  · exact (H3 (by omega) (by omega)).out
  · exact (H2 (by omega)).out
  · exact (H1 (by omega)).out

def Known (u : Use) (now : Int) : Prop := 0 ≤ u.1 ∧ u.1 ≤ 255 ∧ 0 ≤ u.2 ∧ u.2 ≤ now ∧ now ≤ 9223372036854775807
def cntU (u : Use) (now : Int) : Int := max (u.1 - (now - u.2)) 0

set_option maxRecDepth 100000 in
theorem later_any (u : Use) (now : Int) (h : Known u now) (w : World) : Calls Try.prog 22 #[valU u, .int .i64 now] w fun e w' => e = .returned (valU (cntU u now, now)) ∧ Below w.heap.size w w' := by
  obtain ⟨c, a⟩ := u
  obtain ⟨h1, h2, h3, h4, h5⟩ := h
  unfold valU cntU
  simp only at *
  go_enter Try.func22, Try.ntmps22
  go_wp2
  all_goals
    refine bodyPost_ret (v := .agg #[.int .i64 (max (c - (now - a)) 0), .int .i64 now]) ?_ rfl ⟨rfl, ((Below.refl _ _).alloc (Nat.le_refl _) _).alloc (by simp) _⟩
    simp [results, Try.results22, go_sem]
    omega

def manyN (c : Int) : Int := 10 * max (c - 5) 0 + 1
set_option maxRecDepth 100000 in
theorem oneOf_any (c : Int) (h1 : 0 ≤ c) (h2 : c ≤ 255) (w : World) : Calls Try.prog 31 #[.int .i64 c] w fun e w' => e = .returned (.int .u32 (manyN c)) ∧ w = w' := by
  unfold manyN
  go_enter Try.func31, Try.ntmps31
  go_wp2
  all_goals go_ret
  all_goals refine ⟨ret_int ?_, rfl⟩
  all_goals omega

end Go.Proofs.Ytpjggdmfgoajbaa
