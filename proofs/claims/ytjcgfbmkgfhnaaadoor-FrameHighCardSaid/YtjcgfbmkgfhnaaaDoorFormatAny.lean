/- Numbers' digits, whatever the library's table holds: what Format answers. -/
import Derived.Test.YtjcgfbmkgfhnaaaDoorFmt
import Derived.Test.YtjcgfbmkgfhnaaaDoorInts
import Derived.Test.YtjcgfbmkgfhnaaaDoorMark
namespace Go.Proofs.YtjcgfbmkgfhnaaaDoor
open Go.RowKit Go.Shelf

def i64R (n : Int) : Prop := -9223372036854775808 ≤ n ∧ n ≤ 9223372036854775807

theorem strFormat_any (T : Nat → Int) (n : Int) (h : i64R n) (w : World) (hT : Tab T w) : Calls Tryd.prog 104 #[.int .i64 n, .int .i64 10] w fun e w' => e = .returned (.string (ba (fmtS T n))) ∧ Below w.heap.size w w' := by
  have HF := Lib.hid (formatInt_any T n h.1 h.2 w hT)
  go_enter Tryd.func104, Tryd.ntmps104
  go_wp2_with (refine HF.out.mono ?_; rintro e w' ⟨rfl, hb⟩)
  go_ret
  exact ⟨rfl, hb⟩

theorem turn_value (T : Nat → Int) (n : Int) (h : i64R n) (w : World) (hT : Tab T w) : Calls Tryd.prog 103 #[.int .i64 n] w fun e w' => e = .returned (.iface 121 (.string (ba (fmtS T n)))) ∧ Below w.heap.size w w' := by
  have HF := Lib.hid (strFormat_any T n h w hT)
  go_enter Tryd.func103, Tryd.ntmps103
  go_wp2_with (go_at_call 104; refine HF.out.mono ?_; rintro e w' ⟨rfl, hb⟩)
  go_ret
  exact ⟨rfl, hb⟩

set_option maxRecDepth 100000 in
theorem text_value (T : Nat → Int) (n : Int) (h : i64R n) (w : World) (hT : Tab T w) : Calls Tryd.prog 59 #[.iface 127 (.int .i64 n)] w fun e w' => e = .returned (.string (ba (fmtS T n))) ∧ Below w.heap.size w w' := by
  have HT := Lib.hid (turn_value T n h w hT)
  have HD := fun s w => Lib.hid (text_digits s w)
  have t1 := fun u W => (as127 u W).1
  have m1 := fun u W => (turn_name Tryd.underlying120 u W).1
  have c1 : ∀ args W, (callFunc 103 args).run Tryd.prog W = .ok (.enter 103 args) W := fun _ _ => by kernel_rfl
  go_enter Tryd.func59, Tryd.ntmps59
  go_wp2_with (first
    | (refine HT.out.mono ?_; rintro e w1 ⟨rfl, hb⟩)
    | (refine (HD _ _).out.mono ?_; rintro e w2 ⟨rfl, rfl⟩))
  go_ret
  exact ⟨rfl, hb⟩

theorem format_any (T : Nat → Int) (n : Int) (h : i64R n) (w : World) (hT : Tab T w) : Calls Tryd.prog 80 #[.int .i64 n] w fun e w' => e = .returned (.string (ba (fmtS T n))) ∧ Below w.heap.size w w' := by
  have HT := Lib.hid (text_value T n h w hT)
  go_enter Tryd.func80, Tryd.ntmps80
  go_wp2_with (refine HT.out.mono ?_; rintro e w' ⟨rfl, hb⟩)
  go_ret
  exact ⟨rfl, hb⟩

/-- How a head's number is written. -/
def dgT (T : Nat → Int) (n : Int) : ByteArray := ba (fmtS T n)
theorem writes_any (T : Nat → Int) (n : Int) (h : i64R n) (w : World) (hT : Tab T w) : Writes (dgT T) n w := format_any T n h w hT
theorem dgT_size (T : Nat → Int) (n : Int) (h : i64R n) : (dgT T n).size ≤ 21 := by
  have := fmtS_size T h.1 h.2
  show (fmtS T n).toArray.size ≤ 21
  simpa using this
theorem dgT_small (T : Nat → Int) (n : Nat) (h : n < 100) : dgT T n = dig n := by
  unfold dgT
  rw [fmtS_small T h]
  rfl
end Go.Proofs.YtjcgfbmkgfhnaaaDoor
