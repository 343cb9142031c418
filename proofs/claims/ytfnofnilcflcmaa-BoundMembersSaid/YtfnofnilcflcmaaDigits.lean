/- The digit 5, read and written, whatever the library's table of powers holds. -/
import Derived.Test.YtfnofnilcflcmaaOrder
import Derived.ScopeJumps
import Derived.Deep.LoopGhost
import Derived.Lib.Strings
namespace Go.Proofs.Ytfnofnilcflcmaa
open Go.RowKit
attribute [local go_sem] Oper.semAt_some

def five : ByteArray := ⟨#[53]⟩
theorem small_five (w : World) : Calls Try.prog 61 #[.int .i64 5] w fun e w' => e = .returned (.string five) ∧ w' = w := by
  go_enter Try.func61, Try.ntmps61
  go_wp2
  go_ret
  exact ⟨rfl, rfl⟩
theorem format_five (w : World) : Calls Try.prog 60 #[.int .i64 5, .int .i64 10] w fun e w' => e = .returned (.string five) ∧ w' = w := by
  have H := fun w => Lib.hid (small_five w)
  go_enter Try.func60, Try.ntmps60
  go_wp2_with (first | (refine (H _).out.mono ?_; rintro e w1 ⟨rfl, rfl⟩))
  go_ret
  exact ⟨rfl, rfl⟩
theorem strFormat_five (w : World) : Calls Try.prog 59 #[.int .i64 5, .int .i64 10] w fun e w' => e = .returned (.string five) ∧ w' = w := by
  have H := fun w => Lib.hid (format_five w)
  go_enter Try.func59, Try.ntmps59
  go_wp2_with (first | (refine (H _).out.mono ?_; rintro e w1 ⟨rfl, rfl⟩))
  go_ret
  exact ⟨rfl, rfl⟩
theorem turn_five (w : World) : Calls Try.prog 58 #[.int .i64 5] w fun e w' => e = .returned (.iface 65 (.string five)) ∧ w' = w := by
  have H := fun w => Lib.hid (strFormat_five w)
  go_enter Try.func58, Try.ntmps58
  go_wp2_with (first | (refine (H _).out.mono ?_; rintro e w1 ⟨rfl, rfl⟩))
  go_ret
  exact ⟨rfl, rfl⟩
theorem as68 (u : Value) (W : World) : (Instr.typeAssert (.iface 68 u) 64 65 true).run Try.prog W = .ok (.tuple #[.string ⟨#[]⟩, .bool false]) W ∧ (Instr.typeAssert (.iface 68 u) 64 68 true).run Try.prog W = .ok (.tuple #[u, .bool true]) W := ⟨by kernel_rfl, by kernel_rfl⟩
theorem as65 (u : Value) (W : World) : (Instr.typeAssert (.iface 65 u) 64 65 true).run Try.prog W = .ok (.tuple #[u, .bool true]) W ∧ (Instr.typeAssert (.iface 65 u) 64 68 true).run Try.prog W = .ok (.tuple #[.int .i64 0, .bool false]) W := ⟨by kernel_rfl, by kernel_rfl⟩
theorem text_digits (s : ByteArray) (w : World) : Calls Try.prog 40 #[.iface 65 (.string s)] w fun e w' => e = .returned (.string s) ∧ w' = w := by
  have t1 := fun u W => (as65 u W).1
  go_enter Try.func40, Try.ntmps40
  go_wp2
  go_ret
  exact ⟨rfl, rfl⟩
set_option maxRecDepth 100000 in
theorem text_five (w : World) : Calls Try.prog 40 #[.iface 68 (.int .i64 5)] w fun e w' => e = .returned (.string five) ∧ w' = w := by
  have HT := fun w => Lib.hid (turn_five w)
  have HD := fun s w => Lib.hid (text_digits s w)
  have t1 := fun u W => (as68 u W).1
  go_enter Try.func40, Try.ntmps40
  go_wp2_with (first
    | (refine (HT _).out.mono ?_; rintro e w1 ⟨rfl, rfl⟩)
    | (refine (HD _ _).out.mono ?_; rintro e w2 ⟨rfl, rfl⟩))
  go_ret
  exact ⟨rfl, rfl⟩
end Go.Proofs.Ytfnofnilcflcmaa
