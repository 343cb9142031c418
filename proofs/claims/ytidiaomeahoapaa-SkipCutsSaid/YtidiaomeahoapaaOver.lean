/- The closure that lays links over what is left out. -/
import Derived.Test.YtidiaomeahoapaaSplit
namespace Go.Proofs.Ytidiaomeahoapaa
open Go.RowKit Go.Shelf
attribute [local go_sem] Oper.semAt_some

set_option maxRecDepth 100000 in
set_option maxHeartbeats 4000000 in
theorem over_any (b yb ty : Nat) (A WF : Array Value) (pl plf nn : Int) (k wf c : Nat) (hk : k < 32) (o : Option Addr) (ps : Int) (w : World) (hA : Blk w yb ty A) (h0 : A[3 + k * 2]? = some (.pointer o)) (h1 : A[3 + k * 2 + 1]? = some (.int .i64 ps)) (hp : -2000000 ≤ ps ∧ ps ≤ 2000000)
    (hW : Blk w wf 71 WF) (hw0 : WF[k * 3]? = some (.pointer (some ⟨yb, 0, none⟩))) (hw1 : WF[k * 3 + 1]? = some (.int .i64 plf)) (hw2 : WF[k * 3 + 2]? = some (.int .i64 k)) (hq : -2000000 ≤ pl ∧ pl ≤ 2000000) (hq0 : -2000000 ≤ plf ∧ plf ≤ 2000000) (hc : Blk w c 3 #[.int .i64 nn]) (hn : 0 ≤ nn ∧ nn ≤ 2000000) :
    Calls Try.prog 55 #[.agg #[.pointer (some ⟨b, 0, none⟩), .int .i64 pl, .int .i64 k], .pointer (some ⟨wf, 0, none⟩), .pointer (some ⟨c, 0, none⟩)] w fun e w' => e = .returned (.agg #[.pointer o, .int .i64 (plf - pl + ps - nn)]) ∧ Below w.heap.size w w' := by
  obtain ⟨hp1, hp2⟩ := hp
  obtain ⟨hq1, hq2⟩ := hq
  obtain ⟨hq3, hq4⟩ := hq0
  obtain ⟨hn1, hn2⟩ := hn
  have HLK := fun w => Lib.hid (link_any yb plf k hk w)
  have hb1 : Below w.heap.size w ((w.alloc (.cells #[.pointer (some ⟨b, 0, none⟩), .int .i64 pl, .int .i64 k] 69)).alloc (.cells #[.pointer none, .int .i64 0] 58)) := ((Below.refl _ _).alloc (Nat.le_refl _) _).alloc (by simp) _
  have kR : Blk ((w.alloc (.cells #[.pointer (some ⟨b, 0, none⟩), .int .i64 pl, .int .i64 k] 69)).alloc (.cells #[.pointer none, .int .i64 0] 58)) (w.heap.size + 1) 58 #[.pointer none, .int .i64 0] := by
    have := Blk.new (w.alloc (.cells #[.pointer (some ⟨b, 0, none⟩), .int .i64 pl, .int .i64 k] 69)) 58 #[.pointer none, .int .i64 0]; simpa using this
  have kS : Blk ((w.alloc (.cells #[.pointer (some ⟨b, 0, none⟩), .int .i64 pl, .int .i64 k] 69)).alloc (.cells #[.pointer none, .int .i64 0] 58)) w.heap.size 69 #[.pointer (some ⟨b, 0, none⟩), .int .i64 pl, .int .i64 k] := (Blk.new _ _ _).alloc _
  have e0 := (hW.cell _).trans hw0
  have e1 := (hW.cell _).trans hw1
  have e2 := (hW.cell _).trans hw2
  have hlW := hW.lt
  have HA := Lib.hid hA
  have HC := Lib.hid hc
  have HB1 := Lib.hid hb1
  have HR := Lib.hid kR
  have HS := Lib.hid kS
  clear hb1 kR kS hA hW hw0 hw1 hw2 hc
  go_enter Try.func55, Try.ntmps55
  go_wp2_with fail
  refine (HLK _).out.mono ?_
  rintro e w2 ⟨rfl, hb2⟩
  have hba : Below ((w.alloc (.cells #[.pointer (some ⟨b, 0, none⟩), .int .i64 pl, .int .i64 k] 69)).alloc (.cells #[.pointer none, .int .i64 0] 58)).heap.size ((w.alloc (.cells #[.pointer (some ⟨b, 0, none⟩), .int .i64 pl, .int .i64 k] 69)).alloc (.cells #[.pointer none, .int .i64 0] 58)) w2 := ((Below.refl _ _).alloc (Nat.le_refl _) _).trans (hb2.mono (by simp))
  have hb3 := HB1.out.trans (hba.mono HB1.out.size)
  have c0 := ((HA.out.later hb3).cell _).trans h0
  have c1 := ((HA.out.later hb3).cell _).trans h1
  obtain ⟨g0, g1⟩ := facts1 (HC.out.later hb3)
  obtain ⟨r0, r1, r2, r3⟩ := facts2 (HR.out.later hba)
  have s1 := (facts3 (HS.out.later hba)).2.1
  have kB := (Blk.new ((w.alloc (.cells #[.pointer (some ⟨b, 0, none⟩), .int .i64 pl, .int .i64 k] 69)).alloc (.cells #[.pointer none, .int .i64 0] 58)) 69 #[.pointer (some ⟨yb, 0, none⟩), .int .i64 plf, .int .i64 k]).later hb2
  simp only [World.size_alloc] at kB
  have t1 := (facts3 kB).2.1
  have z1 := kB.lt
  have z2 := (HR.out.later hba).lt
  have z3 := (HC.out.later hb3).lt
  have z0 : w.heap.size < w2.heap.size := by omega
  have KR := Lib.hid (HR.out.later hba)
  have HB3 := Lib.hid hb3
  clear hb2 hb3 hba kB e0 e1 e2 h0 h1
  go_wp2_with fail
  have k5 := ((KR.out.set 0 (.pointer o)).set 1 (.int .i64 (plf - pl + ps - nn))).alloc (Obj.cells #[Value.pointer o, Value.int IntKind.i64 ps] 58)
  refine bodyPost_ret (results_cell Try.results55 (b := ⟨w.heap.size + 1, 0, none⟩) rfl (loadVar58 k5)) rfl ?_
  have h3 := HB3.out
  refine ⟨rfl, Below.alloc ?_ (by simpa [World.setCell] using h3.size) _⟩
  exact below_set2 h3 _ _ _ _ _ (by omega)
end Go.Proofs.Ytidiaomeahoapaa
