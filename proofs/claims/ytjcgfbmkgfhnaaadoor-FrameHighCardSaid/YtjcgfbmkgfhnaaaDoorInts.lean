/- Numbers below a hundred: how they are written, and a digit's number. -/
import Derived.Test.YtjcgfbmkgfhnaaaDoorBase
import Derived.Test.YtjcgfbmkgfhnaaaDoorShelf
import Derived.Deep.LoopGhost
namespace Go.Proofs.YtjcgfbmkgfhnaaaDoor
open Go.RowKit Go.Shelf

/-- A number's digits. -/
def dig (n : Nat) : ByteArray := ⟨(Lib.decDigits n).toArray⟩

/-- The method of numbers and of digits. -/
theorem turn_name {n1 : String} {s1 : TypeId} (h : Tryd.prog.underlying 120 = some (.interface #[(n1, s1)])) (u : Value) (W : World) :
    (method 286 127 u n1).run Tryd.prog W = .ok (103, u) W ∧ (method 286 121 u n1).run Tryd.prog W = .ok (52, u) W := by
  have e := Tryd.underlying120.symm.trans h
  simp at e
  obtain ⟨e1, _⟩ := e
  subst e1
  exact ⟨by kernel_rfl, by kernel_rfl⟩
theorem as127 (u : Value) (W : World) : (Instr.typeAssert (.iface 127 u) 120 121 true).run Tryd.prog W = .ok (.tuple #[.string ⟨#[]⟩, .bool false]) W ∧ (Instr.typeAssert (.iface 127 u) 120 127 true).run Tryd.prog W = .ok (.tuple #[u, .bool true]) W := ⟨by kernel_rfl, by kernel_rfl⟩
theorem as121 (u : Value) (W : World) : (Instr.typeAssert (.iface 121 u) 120 121 true).run Tryd.prog W = .ok (.tuple #[u, .bool true]) W ∧ (Instr.typeAssert (.iface 121 u) 120 127 true).run Tryd.prog W = .ok (.tuple #[.int .i64 0, .bool false]) W := ⟨by kernel_rfl, by kernel_rfl⟩

theorem text_digits (s : ByteArray) (w : World) : Calls Tryd.prog 59 #[.iface 121 (.string s)] w fun e w' => e = .returned (.string s) ∧ w' = w := by
  have t1 := fun u W => (as121 u W).1
  go_enter Tryd.func59, Tryd.ntmps59
  go_wp2
  go_ret
  exact ⟨rfl, rfl⟩

theorem turn_small (n : Nat) (h : n < 100) (w : World) : Calls Tryd.prog 103 #[.int .i64 n] w fun e w' => e = .returned (.iface 121 (.string (dig n))) ∧ w' = w := by
  have HF := Lib.hid (Tryd.strconv_FormatInt_10_small n h w)
  go_enter Tryd.func103, Tryd.ntmps103
  go_wp2_with (refine HF.out.mono ?_; rintro e w' ⟨rfl, rfl⟩)
  go_ret
  exact ⟨rfl, rfl⟩

theorem text_small (n : Nat) (h : n < 100) (w : World) : Calls Tryd.prog 59 #[.iface 127 (.int .i64 n)] w fun e w' => e = .returned (.string (dig n)) ∧ w' = w := by
  have HT := fun w => Lib.hid (turn_small n h w)
  have HD := fun s w => Lib.hid (text_digits s w)
  have t1 := fun u W => (as127 u W).1
  have m1 := fun u W => (turn_name Tryd.underlying120 u W).1
  have c1 : ∀ args W, (callFunc 103 args).run Tryd.prog W = .ok (.enter 103 args) W := fun _ _ => by kernel_rfl
  go_enter Tryd.func59, Tryd.ntmps59
  go_wp2_with (first
    | (refine (HT _).out.mono ?_; rintro e w' ⟨rfl, rfl⟩)
    | (refine (HD _ _).out.mono ?_; rintro e w' ⟨rfl, rfl⟩))
  go_ret
  exact ⟨rfl, rfl⟩

theorem format_small (n : Nat) (h : n < 100) (w : World) : Calls Tryd.prog 80 #[.int .i64 n] w fun e w' => e = .returned (.string (dig n)) ∧ w' = w := by
  have HT := fun w => Lib.hid (text_small n h w)
  go_enter Tryd.func80, Tryd.ntmps80
  go_wp2_with (refine (HT _).out.mono ?_; rintro e w' ⟨rfl, rfl⟩)
  go_ret
  exact ⟨rfl, rfl⟩

theorem dig_one (n : Nat) (h : n < 10) : dig n = ⟨#[UInt8.ofNat (48 + n)]⟩ := by
  match n, h with
  | 0, _ => simp [dig, Lib.decDigits]
  | 1, _ => simp [dig, Lib.decDigits]
  | 2, _ => simp [dig, Lib.decDigits]
  | 3, _ => simp [dig, Lib.decDigits]
  | 4, _ => simp [dig, Lib.decDigits]
  | 5, _ => simp [dig, Lib.decDigits]
  | 6, _ => simp [dig, Lib.decDigits]
  | 7, _ => simp [dig, Lib.decDigits]
  | 8, _ => simp [dig, Lib.decDigits]
  | 9, _ => simp [dig, Lib.decDigits]

set_option maxRecDepth 100000 in
set_option maxHeartbeats 2000000 in
/-- A digit turns into its number. -/
theorem turn_digit (n : Nat) (h : n < 10) (w : World) : Calls Tryd.prog 52 #[.string (dig n)] w fun e w' => e = .returned (.iface 127 (.int .i64 n)) ∧ Below w.heap.size w w' := by
  have hT := text_small n (by omega) (w.iter (dig n) 1)
  rw [dig_one n h] at hT ⊢
  have n0 := fun ty => run_next_ascii (P := Tryd.prog) w ⟨#[UInt8.ofNat (48 + n)]⟩ 0 ty (by show 0 < 1; omega) (by show (UInt8.ofNat (48 + n)).toNat < 128; rw [UInt8.toNat_ofNat']; omega)
  have e0 : (((⟨#[UInt8.ofNat (48 + n)]⟩ : ByteArray)[0]'(by show 0 < 1; omega)).toNat : Int) = 48 + n := by
    show ((UInt8.ofNat (48 + n)).toNat : Int) = 48 + n
    rw [UInt8.toNat_ofNat']; omega
  simp only [e0] at n0
  have n1 := run_next_end (P := Tryd.prog) w ⟨#[UInt8.ofNat (48 + n)]⟩ 1
  have hx : (48 + (n : Int) - 48) = n := by omega
  have HT := Lib.hid hT
  clear hT e0
  generalize UInt8.ofNat (48 + n) = d at *
  go_enter Tryd.func52, Tryd.ntmps52
  go_wp2
  go_step3
  go_wp2
  go_step3
  go_wp2
  refine wp_loop_rounds 2 ?_
  rw [rounds_succ]
  go_wp2
  rw [rounds_succ]
  go_wp2_with (refine HT.out.mono ?_; rintro e w' ⟨rfl, rfl⟩)
  rw [Exit.noGoto_ret]
  go_ret
  exact ⟨rfl, (Below.refl _ _).alloc (Nat.le_refl _) _⟩

theorem number_value (n : Int) (w : World) : Calls Tryd.prog 51 #[.iface 127 (.int .i64 n)] w fun e w' => e = .returned (.tuple #[.int .i64 n, .bool true]) ∧ w' = w := by
  have t1 := fun u W => (as127 u W).2
  go_enter Tryd.func51, Tryd.ntmps51
  go_wp2
  go_ret2
  exact ⟨rfl, rfl⟩

/-- A digit is read as its number. -/
theorem parse_digit (n : Nat) (h : n < 10) (w : World) : Calls Tryd.prog 42 #[.string (dig n)] w fun e w' => e = .returned (.tuple #[.int .i64 n, .int .i64 0]) ∧ Below w.heap.size w w' := by
  have HT := Lib.hid (turn_digit n h w)
  have HN := fun w => Lib.hid (number_value n w)
  go_enter Tryd.func42, Tryd.ntmps42
  go_wp2_with (first
    | (refine HT.out.mono ?_; rintro e w1 ⟨rfl, hb⟩)
    | (refine (HN _).out.mono ?_; rintro e w2 ⟨rfl, rfl⟩))
  go_ret2
  exact ⟨rfl, hb⟩

end Go.Proofs.YtjcgfbmkgfhnaaaDoor
