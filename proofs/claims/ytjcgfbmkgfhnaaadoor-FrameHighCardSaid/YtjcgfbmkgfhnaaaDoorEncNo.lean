/- Encode of what is no right reply. -/
import Derived.Test.YtjcgfbmkgfhnaaaDoorEncode
namespace Go.Proofs.YtjcgfbmkgfhnaaaDoor
open Go.RowKit Go.Shelf
attribute [local go_sem] Oper.semAt_some

set_option maxRecDepth 100000 in
set_option maxHeartbeats 2000000 in
theorem encode_no (k n : Int) (s : Txt) (a : Option Addr) (cap : Nat) (sub : Fo) (w : World) (hf : IsFo anyB w a sub) (hdep : sub.depth ≤ 1000)
    (hr : rightS (.cons k n s a cap sub .nil) = false) :
    Calls Tryd.prog 10 #[.agg #[.int .i64 k, .int .i64 n, .string s.1, .slice a sub.len cap]] w fun e w' => e = .returned (.tuple #[.string ⟨#[]⟩, .int .i64 30]) ∧ Below w.heap.size w w' := by
  have hR := right_any k n s a cap sub (w.alloc (Obj.cells #[.int .i64 k, .int .i64 n, .string s.1, .slice a sub.len cap] 24)) (hf.same ((Same24.refl _).alloc _)) hdep
  rw [hr] at hR
  have HR := Lib.hid hR
  clear hR
  go_enter Tryd.func10, Tryd.ntmps10
  go_wp2_with fail
  refine HR.out.mono ?_
  clear HR
  rintro e W1 ⟨rfl, hb1⟩
  have hB1 : Below w.heap.size w W1 := ((Below.refl _ _).alloc (Nat.le_refl _) _).trans (hb1.mono (by simp))
  go_wp2
  go_ret2
  exact ⟨rfl, hB1⟩
end Go.Proofs.YtjcgfbmkgfhnaaaDoor
