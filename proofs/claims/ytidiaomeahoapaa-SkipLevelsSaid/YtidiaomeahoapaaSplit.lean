/- The closures that lay links: split, pass, over. -/
import Derived.Test.YtidiaomeahoapaaRelink
import Derived.Deep.RegionHeld
namespace Go.Proofs.Ytidiaomeahoapaa
open Go.RowKit Go.Shelf
attribute [local go_sem] Oper.semAt_some

theorem size58 : (Try.prog.info? 58).map (·.size) = some 2 := by kernel_rfl
theorem loadVar58 {W : World} {b : Nat} {v0 v1 : Value} (h : Blk W b 58 #[v0, v1]) : (loadVar 58 ⟨b, 0, none⟩).run Try.prog W = .ok (.agg #[v0, v1]) W :=
  run_loadVar_row _ _ 58 58 #[v0, v1] (0, 0) _ h Try.underlying58 rfl size58
theorem below_set2 {w W : World} (h : Below w.heap.size w W) (b o1 o2 : Nat) (v1 v2 : Value) (hb : w.heap.size ≤ b) : Below w.heap.size w ((W.setCell ⟨b, o1, none⟩ v1).setCell ⟨b, o2, none⟩ v2) :=
  ⟨h.os, h.tape, h.output, by simpa [World.setCell] using h.size, fun q hq => (Below.heap_setCell _ _ _ _ (by show q ≠ b; omega)).trans ((Below.heap_setCell _ _ _ _ (by show q ≠ b; omega)).trans (h.block q hq))⟩

set_option maxRecDepth 100000 in
set_option maxHeartbeats 4000000 in
theorem pass_any (b t : Nat) (A : Array Value) (pl : Int) (k : Nat) (hk : k < 32) (o : Option Addr) (ps : Int) (w : World) (hA : Blk w b t A) (h0 : A[3 + k * 2]? = some (.pointer o)) (h1 : A[3 + k * 2 + 1]? = some (.int .i64 ps)) (hp : -2000000 ≤ ps ∧ ps ≤ 2000000) :
    Calls Try.prog 52 #[.agg #[.pointer (some ⟨b, 0, none⟩), .int .i64 pl, .int .i64 k]] w fun e w' => e = .returned (.agg #[.pointer o, .int .i64 (ps + 1)]) ∧ Below w.heap.size w w' := by
  have c0 := (hA.cell _).trans h0
  have c1 := (hA.cell _).trans h1
  have HLK := fun w => Lib.hid (link_any b pl k hk w)
  have HA := Lib.hid hA
  obtain ⟨p1, p2⟩ := hp
  have hb1 : Below w.heap.size w ((w.alloc (.cells #[.pointer (some ⟨b, 0, none⟩), .int .i64 pl, .int .i64 k] 69)).alloc (.cells #[.pointer none, .int .i64 0] 58)) := ((Below.refl _ _).alloc (Nat.le_refl _) _).alloc (by simp) _
  have kR : Blk ((w.alloc (.cells #[.pointer (some ⟨b, 0, none⟩), .int .i64 pl, .int .i64 k] 69)).alloc (.cells #[.pointer none, .int .i64 0] 58)) (w.heap.size + 1) 58 #[.pointer none, .int .i64 0] := by
    have := Blk.new (w.alloc (.cells #[.pointer (some ⟨b, 0, none⟩), .int .i64 pl, .int .i64 k] 69)) 58 #[.pointer none, .int .i64 0]; simpa using this
  have HB1 := Lib.hid hb1
  have HR := Lib.hid kR
  clear hb1 kR hA h0 h1
  go_enter Try.func52, Try.ntmps52
  go_wp2_with fail
  refine (HLK _).out.mono ?_
  rintro e w2 ⟨rfl, hb2⟩
  have hb3 := HB1.out.trans (hb2.mono HB1.out.size)
  have c0' := (hb3.cell (p := ⟨b, 3 + k * 2, none⟩) HA.out.lt).trans c0
  have c1' := (hb3.cell (p := ⟨b, 3 + k * 2 + 1, none⟩) HA.out.lt).trans c1
  have kR2 := HR.out.later hb2
  obtain ⟨e0, e1, e2, e3⟩ := facts2 kR2
  have z1 := kR2.lt
  have KR := Lib.hid kR2
  have HB3 := Lib.hid hb3
  clear hb2 hb3 c0 c1 kR2
  go_wp2_with fail
  have k5 := ((KR.out.set 0 (.pointer o)).set 1 (.int .i64 (ps + 1))).alloc (Obj.cells #[Value.pointer o, Value.int IntKind.i64 ps] 58)
  refine bodyPost_ret (results_cell Try.results52 (b := ⟨w.heap.size + 1, 0, none⟩) rfl (loadVar58 k5)) rfl ?_
  have h3 := HB3.out
  refine ⟨rfl, Below.alloc ?_ (by simpa [World.setCell] using h3.size) _⟩
  exact below_set2 h3 _ _ _ _ _ (by omega)

/-- What split's first line leans on. -/
abbrev SpS (b k s3 wb : Nat) (o : Option Addr) (ps pl pl0 : Int) (w : World) (w' : World) : Prop :=
  w'.cell? ⟨b, 3 + k * 2, none⟩ = some (.pointer o) ∧ w'.cell? ⟨b, 3 + k * 2 + 1, none⟩ = some (.int .i64 ps) ∧ w'.cell? ⟨s3, 0, none⟩ = some (.pointer (some ⟨b, 0, none⟩)) ∧ w'.cell? ⟨s3, 1, none⟩ = some (.int .i64 pl) ∧ w'.cell? ⟨s3, 2, none⟩ = some (.int .i64 k) ∧
    w'.cell? ⟨wb, 1, none⟩ = some (.int .i64 pl0) ∧ Below w.heap.size w w' ∧ w.heap.size ≤ w'.heap.size
theorem SpS.later {b k s3 wb : Nat} {o : Option Addr} {ps pl pl0 : Int} {w w' w5 : World} (h : SpS b k s3 wb o ps pl pl0 w w') (hb : Below w'.heap.size w' w5) : SpS b k s3 wb o ps pl pl0 w w5 := by
  obtain ⟨h1, h2, h3, h4, h5, h6, h7, h8⟩ := h
  have key : ∀ {a : Addr} {v : Value}, w'.cell? a = some v → w5.cell? a = some v := fun {a v} ha => (hb.cell (World.block_lt_of_cell? w' a ha)).trans ha
  exact ⟨key h1, key h2, key h3, key h4, key h5, key h6, h7.trans (hb.mono h8), Nat.le_trans h8 hb.size⟩

theorem far_set2 {S : Nat → Prop} {w W : World} (h : Far S w W) (b o1 o2 : Nat) (v1 v2 : Value) (hb : S b ∨ w.heap.size ≤ b) : Far S w ((W.setCell ⟨b, o1, none⟩ v1).setCell ⟨b, o2, none⟩ v2) :=
  (h.set ⟨b, o1, none⟩ v1 hb).set ⟨b, o2, none⟩ v2 hb
theorem newbox {w1 w5 : World} {c0 c1 : Value} (hb5 : Below (w1.drew.alloc (.cells #[c0, c1] 58)).heap.size (w1.drew.alloc (.cells #[c0, c1] 58)) w5) : w5.cell? ⟨w1.heap.size, 0, none⟩ = some c0 ∧ w5.cell? ⟨w1.heap.size, 1, none⟩ = some c1 ∧ w5.frozen? ⟨w1.heap.size, 0, none⟩ = false ∧ w5.frozen? ⟨w1.heap.size, 1, none⟩ = false :=
  facts2 ((Blk.new w1.drew 58 #[c0, c1]).later hb5)
theorem SpS.set2 {b k s3 wb : Nat} {o : Option Addr} {ps pl pl0 : Int} {w w' : World} {c : Nat} (h : SpS b k s3 wb o ps pl pl0 w w') (v0 v1 : Value) (h1 : b ≠ c) (h2 : s3 ≠ c) (h3 : wb ≠ c) (h4 : w.heap.size ≤ c) : SpS b k s3 wb o ps pl pl0 w ((w'.setCell ⟨c, 0, none⟩ v0).setCell ⟨c, 1, none⟩ v1) := by
  obtain ⟨t1, t2, t3, t4, t5, t6, t7, t8⟩ := h
  have key : ∀ (d i : Nat) (v : Value), d ≠ c → w'.cell? ⟨d, i, none⟩ = some v → ((w'.setCell ⟨c, 0, none⟩ v0).setCell ⟨c, 1, none⟩ v1).cell? ⟨d, i, none⟩ = some v := fun d i v hd hv => by
    have e : ((w'.setCell ⟨c, 0, none⟩ v0).setCell ⟨c, 1, none⟩ v1).heap[d]? = w'.heap[d]? := (Below.heap_setCell _ _ _ _ hd).trans (Below.heap_setCell _ _ _ _ hd)
    rw [← hv]
    unfold World.cell?
    simp only [e]
  exact ⟨key _ _ _ h1 t1, key _ _ _ h1 t2, key _ _ _ h2 t3, key _ _ _ h2 t4, key _ _ _ h2 t5, key _ _ _ h3 t6, below_set2 t7 _ _ _ _ _ h4, by simpa [World.setCell] using t8⟩

set_option maxRecDepth 100000 in
set_option maxHeartbeats 8000000 in
theorem split_any (b t : Nat) (A B WA : Array Value) (pl pl0 : Int) (k wb b6 nb : Nat) (hk : k < 32) (o : Option Addr) (ps : Int) (w : World) (hA : Blk w b t A) (h0 : A[3 + k * 2]? = some (.pointer o)) (h1 : A[3 + k * 2 + 1]? = some (.int .i64 ps)) (hp : -2000000 ≤ ps ∧ ps ≤ 2000000)
    (hW : Blk w wb 71 WA) (hpl : WA[1]? = some (.int .i64 pl0)) (hq : -2000000 ≤ pl ∧ pl ≤ 2000000) (hq0 : -2000000 ≤ pl0 ∧ pl0 ≤ 2000000) (h6 : Blk w b6 56 #[.pointer (some ⟨nb, 0, none⟩)]) (hnb : Blk w nb 61 B) (hB : B.size = 67) (_ : nb ≠ b) :
    Calls Try.prog 51 #[.agg #[.pointer (some ⟨b, 0, none⟩), .int .i64 pl, .int .i64 k], .pointer (some ⟨wb, 0, none⟩), .pointer (some ⟨b6, 0, none⟩)] w fun e w' => e = .returned (.agg #[.pointer (some ⟨nb, 0, none⟩), .int .i64 (pl0 - pl)]) ∧
      Far (fun q => q = nb) w w' ∧ Blk w' nb 61 ((B.setIfInBounds (3 + k * 2) (.pointer o)).setIfInBounds (3 + k * 2 + 1) (.int .i64 (ps - (pl0 - pl)))) := by
  have HLK := fun w => Lib.hid (link_any b pl k hk w)
  obtain ⟨w1, hw1⟩ : ∃ w1, w1 = (w.alloc (.cells #[.pointer (some ⟨b, 0, none⟩), .int .i64 pl, .int .i64 k] 69)).alloc (.cells #[.pointer none, .int .i64 0] 58) := ⟨_, rfl⟩
  have hb1 : Below w.heap.size w w1 := by rw [hw1]; exact ((Below.refl _ _).alloc (Nat.le_refl _) _).alloc (by simp) _
  have kS : Blk w1 w.heap.size 69 #[.pointer (some ⟨b, 0, none⟩), .int .i64 pl, .int .i64 k] := by rw [hw1]; exact (Blk.new _ _ _).alloc _
  have kR : Blk w1 (w.heap.size + 1) 58 #[.pointer none, .int .i64 0] := by
    rw [hw1]
    have := Blk.new (w.alloc (.cells #[.pointer (some ⟨b, 0, none⟩), .int .i64 pl, .int .i64 k] 69)) 58 #[.pointer none, .int .i64 0]; simpa using this
  have hS1 : SpS b k w.heap.size wb o ps pl pl0 w w1 :=
    ⟨((hA.later hb1).cell _).trans h0, ((hA.later hb1).cell _).trans h1, kS.cell 0, kS.cell 1, kS.cell 2, ((hW.later hb1).cell _).trans hpl, hb1, hb1.size⟩
  obtain ⟨hp1, hp2⟩ := hp
  obtain ⟨hq1, hq2⟩ := hq
  obtain ⟨hq3, hq4⟩ := hq0
  have hwr : IntKind.i64.wrap (pl0 - pl) = pl0 - pl := IntWalk.i64_in _ (by omega)
  have hwr2 : IntKind.i64.wrap (ps - (pl0 - pl)) = ps - (pl0 - pl) := IntWalk.i64_in _ (by omega)
  have HS1 := Lib.hid hS1
  have HR := Lib.hid kR
  have HW1 := Lib.hid hw1
  have HB := Lib.hid hb1
  have H6 := Lib.hid h6
  have HNB := Lib.hid hnb
  have hlt1 : b < w1.heap.size := Nat.lt_of_lt_of_le hA.lt hb1.size
  have hlt2 : wb < w1.heap.size := Nat.lt_of_lt_of_le hW.lt hb1.size
  have hlt3 := kS.lt
  clear kS kR hS1 hw1 hb1 h6 hnb hA h0 h1 hW hpl
  go_enter Try.func51, Try.ntmps51
  go_wp2_with fail
  rw [← HW1.out]
  have HS1D : SpS b k w.heap.size wb o ps pl pl0 w w1.drew := HS1.out.later (drewB _ 1)
  rename_i K1 hK1
  have HK1 := Lib.hid hK1
  clear hK1
  have hfin : ∀ (d : Nat) (W6 : World), SpS b k w.heap.size wb o ps pl pl0 w W6 → Blk W6 d 58 #[.pointer o, .int .i64 ps] → Below w1.heap.size w1 W6 → w1.heap.size ≤ d → K1 { tmps := #[.agg #[.pointer (some ⟨b, 0, none⟩), .int .i64 pl, .int .i64 k], .pointer (some ⟨wb, 0, none⟩), .pointer (some ⟨b6, 0, none⟩), .pointer (some ⟨w.heap.size, 0, none⟩), .pointer (some ⟨w.heap.size + 1, 0, none⟩), .pointer (some ⟨d, 0, none⟩), .int .i64 (pl0 - pl), .agg #[.pointer (some ⟨b, 0, none⟩), .int .i64 pl, .int .i64 k], .pointer (some ⟨b, 3 + k * 2, none⟩), .pointer (some ⟨b, 3 + k * 2, none⟩), .agg #[.pointer o, .int .i64 ps], .pointer (some ⟨wb, 0, none⟩), .pointer (some ⟨wb, 1, none⟩), .int .i64 pl0, .pointer (some ⟨w.heap.size, 1, none⟩), .int .i64 pl, .int .i64 (pl0 - pl), undef, undef, undef, undef, undef, undef, undef, undef, undef, undef, undef, undef, undef, undef, undef, undef], defers := [] } W6 := by
    rintro d W6 ⟨s1, s2, s3, s4, s5, s6, s7, s8⟩ kd hb6 hd
    refine HK1.out _ _ ?_
    obtain ⟨d0, d1, _, _⟩ := facts2 kd
    have hbw := HB.out.trans (hb6.mono HB.out.size)
    have k6 := H6.out.later hbw
    have e6 := (facts1 k6).1
    have kn := HNB.out.later hbw
    have n0 := kn.cell (3 + k * 2)
    have n1 := kn.cell (3 + k * 2 + 1)
    rw [Array.getElem?_eq_getElem (by omega)] at n0 n1
    have n2 := kn.free (3 + k * 2)
    have n3 := kn.free (3 + k * 2 + 1)
    have kR := Lib.hid (HR.out.later hb6)
    have r0 := (facts2 kR.out).1
    have r1 := (facts2 kR.out).2.1
    have r2 := (facts2 kR.out).2.2.1
    have r3 := (facts2 kR.out).2.2.2
    have hnd : nb < w.heap.size := HNB.out.lt
    have h6d : b6 < w.heap.size := H6.out.lt
    have hws := HB.out.size
    have HBW := Lib.hid hbw
    have HKN := Lib.hid (kn.set (3 + k * 2) (.pointer o) |>.set (3 + k * 2 + 1) (.int .i64 (ps - (pl0 - pl))))
    have HF7 := Lib.hid (far_set2 (S := fun q => q = nb) (Far.of_below hbw) nb (3 + k * 2) (3 + k * 2 + 1) (.pointer o) (.int .i64 (ps - (pl0 - pl))) (.inl rfl))
    have HR7 := Lib.hid (((kR.out.setOther (3 + k * 2) (.pointer o) (Nat.ne_of_gt (Nat.lt_of_lt_of_le hnd (Nat.le_succ _)))).setOther (3 + k * 2 + 1) (.int .i64 (ps - (pl0 - pl))) (Nat.ne_of_gt (Nat.lt_of_lt_of_le hnd (Nat.le_succ _)))))
    have hsz7 : ((W6.setCell ⟨nb, 3 + k * 2, none⟩ (.pointer o)).setCell ⟨nb, 3 + k * 2 + 1, none⟩ (.int .i64 (ps - (pl0 - pl)))).heap.size = W6.heap.size := by simp [World.setCell]
    clear hbw kn k6 kd hb6
    go_wp2_with fail
    go_region
    generalize (W6.setCell ⟨nb, 3 + k * 2, none⟩ (.pointer o)).setCell ⟨nb, 3 + k * 2 + 1, none⟩ (.int .i64 (ps - (pl0 - pl))) = W7 at *
    have hs7 : W7.drew.heap.size = W6.heap.size := hsz7
    have KN7 := Lib.hid (HKN.out.drew)
    have F7 := Lib.hid (HF7.out.then_below (drewB _ 1))
    have R7 := Lib.hid (HR7.out.drew)
    obtain ⟨t0, t1, t2, t3⟩ := facts2 R7.out
    have F7' : Far (fun q => q = nb) w W7.drew := F7.out
    have F8 := Lib.hid F7'
    have e8 := (facts1 (F7'.blk H6.out (fun e => absurd ((e ▸ H6.out : Blk w nb 56 _).ty HNB.out) (by decide)))).1
    clear F7' F7 HF7 HKN HR7 r0 r1 r2 r3 n0 n1 n2 n3 d0 d1 s1 s2 s3 s4 s5 s6 s7 s8 e6
    generalize W7.drew = W8 at *
    go_wp2_with fail
    have k9 := (R7.out.set 0 (.pointer (some ⟨nb, 0, none⟩))).set 1 (.int .i64 (pl0 - pl))
    refine bodyPost_ret (results_cell Try.results51 (b := ⟨w.heap.size + 1, 0, none⟩) rfl (loadVar58 k9)) rfl ?_
    exact ⟨rfl, far_set2 F8.out _ _ _ _ _ (.inr (Nat.le_succ _)), (KN7.out.setOther _ _ (by omega)).setOther _ _ (by omega)⟩
  go_region_held (fun w' => w'.cell? ⟨b, 3 + k * 2, none⟩ = some (.pointer o) ∧ w'.cell? ⟨b, 3 + k * 2 + 1, none⟩ = some (.int .i64 ps) ∧ w'.cell? ⟨w.heap.size, 0, none⟩ = some (.pointer (some ⟨b, 0, none⟩)) ∧ w'.cell? ⟨w.heap.size, 1, none⟩ = some (.int .i64 pl) ∧ w'.cell? ⟨w.heap.size, 2, none⟩ = some (.int .i64 k) ∧
    w'.cell? ⟨wb, 1, none⟩ = some (.int .i64 pl0) ∧ Below w.heap.size w w' ∧ w.heap.size ≤ w'.heap.size)
    (first
      | exact HS1D
      | exact S5
      | exact SpS.later S5 ((Below.refl _ _).alloc (Nat.le_refl _) _)
      | exact SpS.later HS1D ((Below.refl _ _).alloc (Nat.le_refl _) _)
      | (refine SpS.set2 S5 _ _ ?_ ?_ ?_ ?_ <;> omega))
    (first
      | (go_at_call 36; refine (HLK _).out.mono ?_; rintro e w5 ⟨rfl, hb5⟩; first
          | have S5 := SpS.later HS1D hb5
          | (have S5 := SpS.later (SpS.later HS1D ((Below.refl _ _).alloc (Nat.le_refl _) _)) hb5; obtain ⟨z0, z1, z2, z3⟩ := newbox hb5)))
  · exact hfin _ _ (SpS.later S5 ((Below.refl _ _).alloc (Nat.le_refl _) _)) (Blk.new _ _ _) (((drewB _ 1).trans hb5).trans ((Below.refl _ _).alloc (((drewB _ 1).trans hb5).size) _)) (((drewB _ 1).trans hb5).size)
  · have kd := (Blk.new w1.drew 58 #[.pointer none, .int .i64 0]).later hb5
    have hb6 : Below w1.heap.size w1 w5 := (((drewB _ 1).alloc (Nat.le_refl _) _).trans (hb5.mono (by simp)))
    refine hfin w1.heap.size _ (SpS.set2 S5 _ _ (Nat.ne_of_lt hlt1) (Nat.ne_of_lt hlt3) (Nat.ne_of_lt hlt2) (Nat.le_of_lt hlt3)) ((kd.set 0 _).set 1 _) ?_ (Nat.le_refl _)
    exact below_set2 hb6 _ _ _ _ _ (Nat.le_refl _)
end Go.Proofs.Ytidiaomeahoapaa
