/- ScanNext: the next cursor is the document's. -/
import Derived.Test.YtlfhiolkbnhinaaDoorShown
import Derived.Test.YtlfhiolkbnhinaaDoorRefNext
namespace Go.Proofs.YtlfhiolkbnhinaaDoor
open Go.RowKit Go.Shelf
attribute [local go_sem] Oper.semAt_some

set_option maxHeartbeats 1000000 in
theorem scanNext_walk (c : Nat) (hc : c < 4294967296) (s : Int) (_ : -9223372036854775808 ≤ s ∧ s ≤ 9223372036854775807) (w : World) (hE : Env w) : Calls Tryd.prog 3 #[.int .u32 c, .int .i64 s] w fun e w' => e = .returned (.bool true) ∧ Below w.heap.size w w' := by
  by_cases hs : isS s = true
  · obtain ⟨n, rfl⟩ : ∃ n : Nat, s = n := ⟨s.toNat, by have := isS_pos hs; omega⟩
    have H1 := fun W hE => Lib.hid (next_any c hc n hs W hE)
    have H2 := fun W => Lib.hid (refNext_any c hc n hs W)
    clear hs
    generalize nextN c n = v at *
    go_enter Tryd.func3, Tryd.ntmps3
    go_wp2_with fail
    refine (shown_any _ hE).mono ?_
    rintro e w1 ⟨rfl, hb1⟩
    have hE1 := hE.below hb1
    go_wp2_with fail
    refine (H1 _ hE1).out.mono ?_
    rintro e w2 ⟨rfl, hb2⟩
    go_wp2_with fail
    refine (H2 _).out.mono ?_
    rintro e w3 ⟨rfl, rfl⟩
    go_wp2
    go_ret
    exact ⟨rfl, hb1.trans (hb2.mono hb1.size)⟩
  · have hs' : isS s = false := by cases h : isS s <;> simp_all
    have H1 := fun W => Lib.hid (next_none c s hs' W)
    have H2 := fun W => Lib.hid (refNext_none c s hs' W)
    clear hs hs'
    go_enter Tryd.func3, Tryd.ntmps3
    go_wp2_with fail
    refine (shown_any _ hE).mono ?_
    rintro e w1 ⟨rfl, hb1⟩
    go_wp2_with fail
    refine (H1 _).out.mono ?_
    rintro e w2 ⟨rfl, hb2⟩
    go_wp2_with fail
    refine (H2 _).out.mono ?_
    rintro e w3 ⟨rfl, rfl⟩
    go_wp2
    go_ret
    exact ⟨rfl, hb1.trans (hb2.mono hb1.size)⟩
end Go.Proofs.YtlfhiolkbnhinaaDoor
