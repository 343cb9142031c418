/- Numbers and digits, whatever the library's table holds: what Format and Parse answer. -/
import Derived.Test.YtbjjgkicjnoegaaDoorFmt
import Derived.Test.YtbjjgkicjnoegaaDoorText
import Derived.Deep.LoopGhost
import Derived.Lib.OthersKept
namespace Go.Proofs.YtbjjgkicjnoegaaDoor
open Go.RowKit Go.Shelf

/-- The method of numbers and of digits. -/
theorem turn_name {n1 : String} {s1 : TypeId} (h : Tryd.prog.underlying 86 = some (.interface #[(n1, s1)])) (u : Value) (W : World) :
    (method 271 64 u n1).run Tryd.prog W = .ok (70, u) W ∧ (method 271 87 u n1).run Tryd.prog W = .ok (47, u) W := by
  have e := Tryd.underlying86.symm.trans h
  simp at e
  obtain ⟨e1, _⟩ := e
  subst e1
  exact ⟨by kernel_rfl, by kernel_rfl⟩
theorem as64 (u : Value) (W : World) : (Instr.typeAssert (.iface 64 u) 86 87 true).run Tryd.prog W = .ok (.tuple #[.string ⟨#[]⟩, .bool false]) W ∧ (Instr.typeAssert (.iface 64 u) 86 64 true).run Tryd.prog W = .ok (.tuple #[u, .bool true]) W := ⟨by kernel_rfl, by kernel_rfl⟩
theorem as87 (u : Value) (W : World) : (Instr.typeAssert (.iface 87 u) 86 87 true).run Tryd.prog W = .ok (.tuple #[u, .bool true]) W ∧ (Instr.typeAssert (.iface 87 u) 86 64 true).run Tryd.prog W = .ok (.tuple #[.int .i64 0, .bool false]) W := ⟨by kernel_rfl, by kernel_rfl⟩

theorem text_digits (s : ByteArray) (w : World) : Calls Tryd.prog 25 #[.iface 87 (.string s)] w fun e w' => e = .returned (.string s) ∧ w' = w := by
  have t1 := fun u W => (as87 u W).1
  go_enter Tryd.func25, Tryd.ntmps25
  go_wp2
  go_ret
  exact ⟨rfl, rfl⟩

def i64R (n : Int) : Prop := -9223372036854775808 ≤ n ∧ n ≤ 9223372036854775807

theorem strFormat_any (T : Nat → Int) (n : Int) (h : i64R n) (w : World) (hT : Tab T w) : Calls Tryd.prog 71 #[.int .i64 n, .int .i64 10] w fun e w' => e = .returned (.string (ba (fmtS T n))) ∧ Below w.heap.size w w' := by
  have HF := Lib.hid (formatInt_any T n h.1 h.2 w hT)
  go_enter Tryd.func71, Tryd.ntmps71
  go_wp2_with (refine HF.out.mono ?_; rintro e w' ⟨rfl, hb⟩)
  go_ret
  exact ⟨rfl, hb⟩

theorem turn_value (T : Nat → Int) (n : Int) (h : i64R n) (w : World) (hT : Tab T w) : Calls Tryd.prog 70 #[.int .i64 n] w fun e w' => e = .returned (.iface 87 (.string (ba (fmtS T n)))) ∧ Below w.heap.size w w' := by
  have HF := Lib.hid (strFormat_any T n h w hT)
  go_enter Tryd.func70, Tryd.ntmps70
  go_wp2_with (go_at_call 71; refine HF.out.mono ?_; rintro e w' ⟨rfl, hb⟩)
  go_ret
  exact ⟨rfl, hb⟩

set_option maxRecDepth 100000 in
theorem text_value (T : Nat → Int) (n : Int) (h : i64R n) (w : World) (hT : Tab T w) : Calls Tryd.prog 25 #[.iface 64 (.int .i64 n)] w fun e w' => e = .returned (.string (ba (fmtS T n))) ∧ Below w.heap.size w w' := by
  have HT := Lib.hid (turn_value T n h w hT)
  have HD := fun s w => Lib.hid (text_digits s w)
  have t1 := fun u W => (as64 u W).1
  have m1 := fun u W => (turn_name Tryd.underlying86 u W).1
  have c1 : ∀ args W, (callFunc 70 args).run Tryd.prog W = .ok (.enter 70 args) W := fun _ _ => by kernel_rfl
  go_enter Tryd.func25, Tryd.ntmps25
  go_wp2_with (first
    | (refine HT.out.mono ?_; rintro e w1 ⟨rfl, hb⟩)
    | (refine (HD _ _).out.mono ?_; rintro e w2 ⟨rfl, rfl⟩))
  go_ret
  exact ⟨rfl, hb⟩

theorem format_any (T : Nat → Int) (n : Int) (h : i64R n) (w : World) (hT : Tab T w) : Calls Tryd.prog 22 #[.int .i64 n] w fun e w' => e = .returned (.string (ba (fmtS T n))) ∧ Below w.heap.size w w' := by
  have HT := Lib.hid (text_value T n h w hT)
  go_enter Tryd.func22, Tryd.ntmps22
  go_wp2_with (refine HT.out.mono ?_; rintro e w' ⟨rfl, hb⟩)
  go_ret
  exact ⟨rfl, hb⟩

end Go.Proofs.YtbjjgkicjnoegaaDoor
