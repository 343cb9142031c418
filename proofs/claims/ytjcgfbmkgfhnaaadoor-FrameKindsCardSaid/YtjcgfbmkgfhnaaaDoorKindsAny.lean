/- FrameKinds, whatever it is given. -/
import Derived.Test.YtjcgfbmkgfhnaaaDoorKindsT
import Derived.Test.YtjcgfbmkgfhnaaaDoorKindsF
import Derived.Test.YtjcgfbmkgfhnaaaDoorKindsN
namespace Go.Proofs.YtjcgfbmkgfhnaaaDoor
open Go.RowKit Go.Shelf
attribute [local go_sem] Oper.semAt_some

set_option maxRecDepth 100000 in
set_option maxHeartbeats 2000000 in
theorem kinds_any {W : World} {aM aW : Addr} {m : Int} (hE : Env W aM aW m) (h3 : 3 ≤ W.heap.size) (s : ByteArray) (hs : s.size ≤ maxLen) (n k : Int) :
    Calls Tryd.prog 5 #[.string s, .int .i64 n, .int .i64 k] W fun e W' => e = .returned (.bool true) ∧ Below W.heap.size W W' := by
  have HS := Lib.hid (shown_any hE h3)
  by_cases hk : k < 0
  · have hk' := hk
    go_enter Tryd.func5, Tryd.ntmps5
    go_wp2_with (go_at_call 8; refine HS.out.mono ?_; rintro e w1 ⟨rfl, hb1⟩)
    go_ret
    exact ⟨rfl, hb1⟩
  by_cases hk2 : 60 < k
  · go_enter Tryd.func5, Tryd.ntmps5
    go_wp2_with (go_at_call 8; refine HS.out.mono ?_; rintro e w1 ⟨rfl, hb1⟩)
    go_ret
    exact ⟨rfl, hb1⟩
  clear HS
  cases hra : fitsS (.simple (s.extract 0 (min (s.size : Int) 610).toNat)) 0 with
  | true =>
    refine kinds_T hE h3 s hs n k hk hk2 _ rfl hra ?_
    simp only [fitsS, Bool.and_eq_true, decide_eq_true_eq, ByteArray.size_extract] at hra
    have := hra.1
    omega
  | false =>
    by_cases h6 : ((min (s.size : Int) 610).toNat : Int) ≤ 600
    · exact kinds_F hE h3 s hs n k hk hk2 _ rfl hra h6
    · exact kinds_N hE h3 s hs n k hk hk2 _ rfl hra h6

end Go.Proofs.YtjcgfbmkgfhnaaaDoor
