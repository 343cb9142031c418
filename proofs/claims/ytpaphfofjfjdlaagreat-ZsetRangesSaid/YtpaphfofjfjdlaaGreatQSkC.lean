/- Texts of one kind in one: SkRelink, SkSplit, SkOver, SkIns. -/
import Derived.Test.YtpaphfofjfjdlaaGreatQSkB
import Derived.Deep.RegionHeld
/- relink: the links of levels are laid anew, each as a closure says. -/
namespace Go.Proofs.YtpaphfofjfjdlaaGreat.Sk
open Go.RowKit Go.Shelf
attribute [local go_sem] Oper.semAt_some

/-- What a closure does with a level's link. -/
structure Links (F : List Nd) (a wb k0 N : Nat) (G : Nat) (caps : Array Value) (Inv : Nat → World → Prop) : Prop where
  enter : ∀ args w, (callFunc G args).run Tryz.prog w = .ok (.enter G args) w
  stable : ∀ k W W', Inv k W → Below W.heap.size W W' → Inv k W'
  way : ∀ k W, Inv k W → Blk W wb 150 (wayA F a)
  call : ∀ k W x, k0 ≤ k → k < k0 + N → Inv k W → F[last F k a]? = some x → Calls Tryz.prog G (#[.agg #[.pointer (some ⟨x.b, 0, none⟩), .int .i64 ((last F k a : Int) - 1), .int .i64 k]] ++ caps) W fun e w' =>
    ∃ nv ps u1 u2, e = .returned (.agg #[.pointer nv, .int .i64 ps]) ∧ w'.cell? ⟨x.b, 3 + k * 2, none⟩ = some u1 ∧ w'.cell? ⟨x.b, 3 + k * 2 + 1, none⟩ = some u2 ∧ w'.frozen? ⟨x.b, 3 + k * 2, none⟩ = false ∧ w'.frozen? ⟨x.b, 3 + k * 2 + 1, none⟩ = false ∧
      Inv (k + 1) ((w'.setCell ⟨x.b, 3 + k * 2, none⟩ (.pointer nv)).setCell ⟨x.b, 3 + k * 2 + 1, none⟩ (.int .i64 ps)) ∧ W.heap.size ≤ w'.heap.size

set_option maxRecDepth 100000 in
set_option maxHeartbeats 4000000 in
theorem relink_any {F : List Nd} {a wb k0 N : Nat} {G : Nat} {caps : Array Value} {Inv : Nat → World → Prop} (h : Links F a wb k0 N G caps Inv) (hF : ∀ k, k < 32 → last F k a < F.length) (hk : k0 + N ≤ 32) (cap : Nat) (w : World) (h0 : Inv k0 w) :
    Calls Tryz.prog 100 #[.func (.func G) #[] caps, .slice (some ⟨wb, k0 * 3, none⟩) N cap] w fun e w' => e = .returned (.tuple #[]) ∧ Inv (k0 + N) w' := by
  have HH := Lib.hid h
  have HFL := Lib.hid hF
  have henter := h.enter
  have HLK := fun b q k hk w => Lib.hid (link_any b q k hk w)
  have H0 := Lib.hid h0
  clear h hF h0
  have hN32 : (N : Int) ≤ 32 := by omega
  go_enter Tryz.func100, Tryz.ntmps100
  go_wp2
  go_loopw [8] (fun i wr => ∃ (k : Nat), i = .int .i64 k ∧ k ≤ N ∧ Inv (k0 + k) wr) (fun i _ => N - (intOf i).toNat)
  case atStart => exact ⟨0, rfl, by omega, H0.out⟩
  case round =>
    obtain ⟨k, rfl, hkN, hI⟩ := hrel
    by_cases hlt : k < N
    · have hwy := HH.out.way _ _ hI
      obtain ⟨c0, c1, c2⟩ := way_cells F a (k0 + k) (by omega)
      have e0 := (hwy.cell _).trans c0
      have e1 := (hwy.cell _).trans c1
      have e2 := (hwy.cell _).trans c2
      obtain ⟨x, hx⟩ : ∃ x, F[last F (k0 + k) a]? = some x := ⟨_, List.getElem?_eq_getElem (HFL.out _ (by omega))⟩
      rw [adr_some hx] at e0
      rw [show (k0 + k) * 3 = k0 * 3 + k * 3 by omega] at e0 e1 e2
      have HI := Lib.hid hI
      have HX := Lib.hid hx
      clear hI hx c0 c1 c2 hwy
      have HL2 := fun w => HLK x.b ((last F (k0 + k) a : Int) - 1) (k0 + k) (by omega) w
      have HC := fun (W : World) (hb : Below wr.heap.size wr W) => Lib.hid (HH.out.call (k0 + k) W x (by omega) (by omega) (HH.out.stable _ _ _ HI.out hb) HX.out)
      rw [Int.natCast_add] at HL2 HC
      have kb := Blk.new wr 148 #[.pointer (some ⟨x.b, 0, none⟩), .int .i64 ((last F (k0 + k) a : Int) - 1), .int .i64 ((k0 : Int) + k)]
      have hbw : Below wr.heap.size wr (wr.alloc (.cells #[.pointer (some ⟨x.b, 0, none⟩), .int .i64 ((last F (k0 + k) a : Int) - 1), .int .i64 ((k0 : Int) + k)] 148)) := (Below.refl _ _).alloc (Nat.le_refl _) _
      have KB := Lib.hid kb
      have HBW := Lib.hid hbw
      clear kb hbw HLK
      go_wp2_with fail
      go_region_with ((first
        | (go_at_call 97
           refine (HL2 _).out.mono ?_
           rintro e w2 ⟨rfl, hb2⟩
           have hb3 := HBW.out.trans (((drewB _ 1).trans hb2).mono HBW.out.size)
           have HCC := HC w2 hb3
           obtain ⟨f0, f1, f2, f3, f4, f5⟩ := facts3 (KB.out.later ((drewB _ 1).trans hb2))
           clear hb2)
        | (refine HCC.out.mono ?_
           rintro e w5 ⟨nv, ps, u1, u2, rfl, c1, c2, d1, d2, hI2, hz⟩
           have HI2 := Lib.hid hI2
           clear hI2)))
      all_goals (
        go_wp2
        exact ⟨⟨k + 1, by go_num, hlt, HI2.out⟩, by simp [intOf]; omega⟩)
    · obtain rfl : k = N := by omega
      go_wp2
      go_returns
      exact ⟨rfl, hI⟩
end Go.Proofs.YtpaphfofjfjdlaaGreat.Sk
/- The closures that lay links: split, pass, over. -/
namespace Go.Proofs.YtpaphfofjfjdlaaGreat.Sk
open Go.RowKit Go.Shelf
attribute [local go_sem] Oper.semAt_some

theorem size58 : (Tryz.prog.info? 130).map (·.size) = some 2 := by kernel_rfl
theorem loadVar58 {W : World} {b : Nat} {v0 v1 : Value} (h : Blk W b 130 #[v0, v1]) : (loadVar 130 ⟨b, 0, none⟩).run Tryz.prog W = .ok (.agg #[v0, v1]) W :=
  run_loadVar_row _ _ 130 130 #[v0, v1] (0, 0) _ h Tryz.underlying130 rfl size58
theorem below_set2 {w W : World} (h : Below w.heap.size w W) (b o1 o2 : Nat) (v1 v2 : Value) (hb : w.heap.size ≤ b) : Below w.heap.size w ((W.setCell ⟨b, o1, none⟩ v1).setCell ⟨b, o2, none⟩ v2) :=
  ⟨h.os, h.tape, h.output, by simpa [World.setCell] using h.size, fun q hq => (Below.heap_setCell _ _ _ _ (by show q ≠ b; omega)).trans ((Below.heap_setCell _ _ _ _ (by show q ≠ b; omega)).trans (h.block q hq))⟩

set_option maxRecDepth 100000 in
set_option maxHeartbeats 4000000 in
theorem pass_any (b t : Nat) (A : Array Value) (pl : Int) (k : Nat) (hk : k < 32) (o : Option Addr) (ps : Int) (w : World) (hA : Blk w b t A) (h0 : A[3 + k * 2]? = some (.pointer o)) (h1 : A[3 + k * 2 + 1]? = some (.int .i64 ps)) (hp : -2000000 ≤ ps ∧ ps ≤ 2000000) :
    Calls Tryz.prog 99 #[.agg #[.pointer (some ⟨b, 0, none⟩), .int .i64 pl, .int .i64 k]] w fun e w' => e = .returned (.agg #[.pointer o, .int .i64 (ps + 1)]) ∧ Below w.heap.size w w' := by
  have c0 := (hA.cell _).trans h0
  have c1 := (hA.cell _).trans h1
  have HLK := fun w => Lib.hid (link_any b pl k hk w)
  have HA := Lib.hid hA
  obtain ⟨p1, p2⟩ := hp
  have hb1 : Below w.heap.size w ((w.alloc (.cells #[.pointer (some ⟨b, 0, none⟩), .int .i64 pl, .int .i64 k] 148)).alloc (.cells #[.pointer none, .int .i64 0] 130)) := ((Below.refl _ _).alloc (Nat.le_refl _) _).alloc (by simp) _
  have kR : Blk ((w.alloc (.cells #[.pointer (some ⟨b, 0, none⟩), .int .i64 pl, .int .i64 k] 148)).alloc (.cells #[.pointer none, .int .i64 0] 130)) (w.heap.size + 1) 130 #[.pointer none, .int .i64 0] := by
    have := Blk.new (w.alloc (.cells #[.pointer (some ⟨b, 0, none⟩), .int .i64 pl, .int .i64 k] 148)) 130 #[.pointer none, .int .i64 0]; simpa using this
  have HB1 := Lib.hid hb1
  have HR := Lib.hid kR
  clear hb1 kR hA h0 h1
  go_enter Tryz.func99, Tryz.ntmps99
  go_wp2_with fail
  refine (HLK _).out.mono ?_
  rintro e w2 ⟨rfl, hb2⟩
  have hb3 := HB1.out.trans (hb2.mono HB1.out.size)
  have c0' := (hb3.cell (p := ⟨b, 3 + k * 2, none⟩) HA.out.lt).trans c0
  have c1' := (hb3.cell (p := ⟨b, 3 + k * 2 + 1, none⟩) HA.out.lt).trans c1
  have kR2 := HR.out.later hb2
  obtain ⟨e0, e1, e2, e3⟩ := facts2 kR2
  have z1 := kR2.lt
  have KR := Lib.hid kR2
  have HB3 := Lib.hid hb3
  clear hb2 hb3 c0 c1 kR2
  go_wp2_with fail
  have k5 := ((KR.out.set 0 (.pointer o)).set 1 (.int .i64 (ps + 1))).alloc (Obj.cells #[Value.pointer o, Value.int IntKind.i64 ps] 130)
  refine bodyPost_ret (results_cell Tryz.results99 (b := ⟨w.heap.size + 1, 0, none⟩) rfl (loadVar58 k5)) rfl ?_
  have h3 := HB3.out
  refine ⟨rfl, Below.alloc ?_ (by simpa [World.setCell] using h3.size) _⟩
  exact below_set2 h3 _ _ _ _ _ (by omega)

/-- What split's first line leans on. -/
abbrev SpS (b k s3 wb : Nat) (o : Option Addr) (ps pl pl0 : Int) (w : World) (w' : World) : Prop :=
  w'.cell? ⟨b, 3 + k * 2, none⟩ = some (.pointer o) ∧ w'.cell? ⟨b, 3 + k * 2 + 1, none⟩ = some (.int .i64 ps) ∧ w'.cell? ⟨s3, 0, none⟩ = some (.pointer (some ⟨b, 0, none⟩)) ∧ w'.cell? ⟨s3, 1, none⟩ = some (.int .i64 pl) ∧ w'.cell? ⟨s3, 2, none⟩ = some (.int .i64 k) ∧
    w'.cell? ⟨wb, 1, none⟩ = some (.int .i64 pl0) ∧ Below w.heap.size w w' ∧ w.heap.size ≤ w'.heap.size
theorem SpS.later {b k s3 wb : Nat} {o : Option Addr} {ps pl pl0 : Int} {w w' w5 : World} (h : SpS b k s3 wb o ps pl pl0 w w') (hb : Below w'.heap.size w' w5) : SpS b k s3 wb o ps pl pl0 w w5 := by
  obtain ⟨h1, h2, h3, h4, h5, h6, h7, h8⟩ := h
  have key : ∀ {a : Addr} {v : Value}, w'.cell? a = some v → w5.cell? a = some v := fun {a v} ha => (hb.cell (World.block_lt_of_cell? w' a ha)).trans ha
  exact ⟨key h1, key h2, key h3, key h4, key h5, key h6, h7.trans (hb.mono h8), Nat.le_trans h8 hb.size⟩

theorem far_set2 {S : Nat → Prop} {w W : World} (h : Far S w W) (b o1 o2 : Nat) (v1 v2 : Value) (hb : S b ∨ w.heap.size ≤ b) : Far S w ((W.setCell ⟨b, o1, none⟩ v1).setCell ⟨b, o2, none⟩ v2) :=
  (h.set ⟨b, o1, none⟩ v1 hb).set ⟨b, o2, none⟩ v2 hb
theorem newbox {w1 w5 : World} {c0 c1 : Value} (hb5 : Below (w1.drew.alloc (.cells #[c0, c1] 130)).heap.size (w1.drew.alloc (.cells #[c0, c1] 130)) w5) : w5.cell? ⟨w1.heap.size, 0, none⟩ = some c0 ∧ w5.cell? ⟨w1.heap.size, 1, none⟩ = some c1 ∧ w5.frozen? ⟨w1.heap.size, 0, none⟩ = false ∧ w5.frozen? ⟨w1.heap.size, 1, none⟩ = false :=
  facts2 ((Blk.new w1.drew 130 #[c0, c1]).later hb5)
theorem SpS.set2 {b k s3 wb : Nat} {o : Option Addr} {ps pl pl0 : Int} {w w' : World} {c : Nat} (h : SpS b k s3 wb o ps pl pl0 w w') (v0 v1 : Value) (h1 : b ≠ c) (h2 : s3 ≠ c) (h3 : wb ≠ c) (h4 : w.heap.size ≤ c) : SpS b k s3 wb o ps pl pl0 w ((w'.setCell ⟨c, 0, none⟩ v0).setCell ⟨c, 1, none⟩ v1) := by
  obtain ⟨t1, t2, t3, t4, t5, t6, t7, t8⟩ := h
  have key : ∀ (d i : Nat) (v : Value), d ≠ c → w'.cell? ⟨d, i, none⟩ = some v → ((w'.setCell ⟨c, 0, none⟩ v0).setCell ⟨c, 1, none⟩ v1).cell? ⟨d, i, none⟩ = some v := fun d i v hd hv => by
    have e : ((w'.setCell ⟨c, 0, none⟩ v0).setCell ⟨c, 1, none⟩ v1).heap[d]? = w'.heap[d]? := (Below.heap_setCell _ _ _ _ hd).trans (Below.heap_setCell _ _ _ _ hd)
    rw [← hv]
    unfold World.cell?
    simp only [e]
  exact ⟨key _ _ _ h1 t1, key _ _ _ h1 t2, key _ _ _ h2 t3, key _ _ _ h2 t4, key _ _ _ h2 t5, key _ _ _ h3 t6, below_set2 t7 _ _ _ _ _ h4, by simpa [World.setCell] using t8⟩

set_option maxRecDepth 100000 in
set_option maxHeartbeats 8000000 in
theorem split_any (b t : Nat) (A B WA : Array Value) (pl pl0 : Int) (k wb b6 nb : Nat) (hk : k < 32) (o : Option Addr) (ps : Int) (w : World) (hA : Blk w b t A) (h0 : A[3 + k * 2]? = some (.pointer o)) (h1 : A[3 + k * 2 + 1]? = some (.int .i64 ps)) (hp : -2000000 ≤ ps ∧ ps ≤ 2000000)
    (hW : Blk w wb 150 WA) (hpl : WA[1]? = some (.int .i64 pl0)) (hq : -2000000 ≤ pl ∧ pl ≤ 2000000) (hq0 : -2000000 ≤ pl0 ∧ pl0 ≤ 2000000) (h6 : Blk w b6 128 #[.pointer (some ⟨nb, 0, none⟩)]) (hnb : Blk w nb 133 B) (hB : B.size = 67) (_ : nb ≠ b) :
    Calls Tryz.prog 98 #[.agg #[.pointer (some ⟨b, 0, none⟩), .int .i64 pl, .int .i64 k], .pointer (some ⟨wb, 0, none⟩), .pointer (some ⟨b6, 0, none⟩)] w fun e w' => e = .returned (.agg #[.pointer (some ⟨nb, 0, none⟩), .int .i64 (pl0 - pl)]) ∧
      Far (fun q => q = nb) w w' ∧ Blk w' nb 133 ((B.setIfInBounds (3 + k * 2) (.pointer o)).setIfInBounds (3 + k * 2 + 1) (.int .i64 (ps - (pl0 - pl)))) := by
  have HLK := fun w => Lib.hid (link_any b pl k hk w)
  obtain ⟨w1, hw1⟩ : ∃ w1, w1 = (w.alloc (.cells #[.pointer (some ⟨b, 0, none⟩), .int .i64 pl, .int .i64 k] 148)).alloc (.cells #[.pointer none, .int .i64 0] 130) := ⟨_, rfl⟩
  have hb1 : Below w.heap.size w w1 := by rw [hw1]; exact ((Below.refl _ _).alloc (Nat.le_refl _) _).alloc (by simp) _
  have kS : Blk w1 w.heap.size 148 #[.pointer (some ⟨b, 0, none⟩), .int .i64 pl, .int .i64 k] := by rw [hw1]; exact (Blk.new _ _ _).alloc _
  have kR : Blk w1 (w.heap.size + 1) 130 #[.pointer none, .int .i64 0] := by
    rw [hw1]
    have := Blk.new (w.alloc (.cells #[.pointer (some ⟨b, 0, none⟩), .int .i64 pl, .int .i64 k] 148)) 130 #[.pointer none, .int .i64 0]; simpa using this
  have hS1 : SpS b k w.heap.size wb o ps pl pl0 w w1 :=
    ⟨((hA.later hb1).cell _).trans h0, ((hA.later hb1).cell _).trans h1, kS.cell 0, kS.cell 1, kS.cell 2, ((hW.later hb1).cell _).trans hpl, hb1, hb1.size⟩
  obtain ⟨hp1, hp2⟩ := hp
  obtain ⟨hq1, hq2⟩ := hq
  obtain ⟨hq3, hq4⟩ := hq0
  have hwr : IntKind.i64.wrap (pl0 - pl) = pl0 - pl := IntWalk.i64_in _ (by omega)
  have hwr2 : IntKind.i64.wrap (ps - (pl0 - pl)) = ps - (pl0 - pl) := IntWalk.i64_in _ (by omega)
  have HS1 := Lib.hid hS1
  have HR := Lib.hid kR
  have HW1 := Lib.hid hw1
  have HB := Lib.hid hb1
  have H6 := Lib.hid h6
  have HNB := Lib.hid hnb
  have hlt1 : b < w1.heap.size := Nat.lt_of_lt_of_le hA.lt hb1.size
  have hlt2 : wb < w1.heap.size := Nat.lt_of_lt_of_le hW.lt hb1.size
  have hlt3 := kS.lt
  clear kS kR hS1 hw1 hb1 h6 hnb hA h0 h1 hW hpl
  go_enter Tryz.func98, Tryz.ntmps98
  go_wp2_with fail
  rw [← HW1.out]
  have HS1D : SpS b k w.heap.size wb o ps pl pl0 w w1.drew := HS1.out.later (drewB _ 1)
  rename_i K1 hK1
  have HK1 := Lib.hid hK1
  clear hK1
  have hfin : ∀ (d : Nat) (W6 : World), SpS b k w.heap.size wb o ps pl pl0 w W6 → Blk W6 d 130 #[.pointer o, .int .i64 ps] → Below w1.heap.size w1 W6 → w1.heap.size ≤ d → K1 { tmps := #[.agg #[.pointer (some ⟨b, 0, none⟩), .int .i64 pl, .int .i64 k], .pointer (some ⟨wb, 0, none⟩), .pointer (some ⟨b6, 0, none⟩), .pointer (some ⟨w.heap.size, 0, none⟩), .pointer (some ⟨w.heap.size + 1, 0, none⟩), .pointer (some ⟨d, 0, none⟩), .int .i64 (pl0 - pl), .agg #[.pointer (some ⟨b, 0, none⟩), .int .i64 pl, .int .i64 k], .pointer (some ⟨b, 3 + k * 2, none⟩), .pointer (some ⟨b, 3 + k * 2, none⟩), .agg #[.pointer o, .int .i64 ps], .pointer (some ⟨wb, 0, none⟩), .pointer (some ⟨wb, 1, none⟩), .int .i64 pl0, .pointer (some ⟨w.heap.size, 1, none⟩), .int .i64 pl, .int .i64 (pl0 - pl), undef, undef, undef, undef, undef, undef, undef, undef, undef, undef, undef, undef, undef, undef, undef, undef], defers := [] } W6 := by
    rintro d W6 ⟨s1, s2, s3, s4, s5, s6, s7, s8⟩ kd hb6 hd
    refine HK1.out _ _ ?_
    obtain ⟨d0, d1, _, _⟩ := facts2 kd
    have hbw := HB.out.trans (hb6.mono HB.out.size)
    have k6 := H6.out.later hbw
    have e6 := (facts1 k6).1
    have kn := HNB.out.later hbw
    have n0 := kn.cell (3 + k * 2)
    have n1 := kn.cell (3 + k * 2 + 1)
    rw [Array.getElem?_eq_getElem (by omega)] at n0 n1
    have n2 := kn.free (3 + k * 2)
    have n3 := kn.free (3 + k * 2 + 1)
    have kR := Lib.hid (HR.out.later hb6)
    have r0 := (facts2 kR.out).1
    have r1 := (facts2 kR.out).2.1
    have r2 := (facts2 kR.out).2.2.1
    have r3 := (facts2 kR.out).2.2.2
    have hnd : nb < w.heap.size := HNB.out.lt
    have h6d : b6 < w.heap.size := H6.out.lt
    have hws := HB.out.size
    have HBW := Lib.hid hbw
    have HKN := Lib.hid (kn.set (3 + k * 2) (.pointer o) |>.set (3 + k * 2 + 1) (.int .i64 (ps - (pl0 - pl))))
    have HF7 := Lib.hid (far_set2 (S := fun q => q = nb) (Far.of_below hbw) nb (3 + k * 2) (3 + k * 2 + 1) (.pointer o) (.int .i64 (ps - (pl0 - pl))) (.inl rfl))
    have HR7 := Lib.hid (((kR.out.setOther (3 + k * 2) (.pointer o) (Nat.ne_of_gt (Nat.lt_of_lt_of_le hnd (Nat.le_succ _)))).setOther (3 + k * 2 + 1) (.int .i64 (ps - (pl0 - pl))) (Nat.ne_of_gt (Nat.lt_of_lt_of_le hnd (Nat.le_succ _)))))
    have hsz7 : ((W6.setCell ⟨nb, 3 + k * 2, none⟩ (.pointer o)).setCell ⟨nb, 3 + k * 2 + 1, none⟩ (.int .i64 (ps - (pl0 - pl)))).heap.size = W6.heap.size := by simp [World.setCell]
    clear hbw kn k6 kd hb6
    go_wp2_with fail
    go_region
    generalize (W6.setCell ⟨nb, 3 + k * 2, none⟩ (.pointer o)).setCell ⟨nb, 3 + k * 2 + 1, none⟩ (.int .i64 (ps - (pl0 - pl))) = W7 at *
    have hs7 : W7.drew.heap.size = W6.heap.size := hsz7
    have KN7 := Lib.hid (HKN.out.drew)
    have F7 := Lib.hid (HF7.out.then_below (drewB _ 1))
    have R7 := Lib.hid (HR7.out.drew)
    obtain ⟨t0, t1, t2, t3⟩ := facts2 R7.out
    have F7' : Far (fun q => q = nb) w W7.drew := F7.out
    have F8 := Lib.hid F7'
    have e8 := (facts1 (F7'.blk H6.out (fun e => absurd ((e ▸ H6.out : Blk w nb 128 _).ty HNB.out) (by decide)))).1
    clear F7' F7 HF7 HKN HR7 r0 r1 r2 r3 n0 n1 n2 n3 d0 d1 s1 s2 s3 s4 s5 s6 s7 s8 e6
    generalize W7.drew = W8 at *
    go_wp2_with fail
    have k9 := (R7.out.set 0 (.pointer (some ⟨nb, 0, none⟩))).set 1 (.int .i64 (pl0 - pl))
    refine bodyPost_ret (results_cell Tryz.results98 (b := ⟨w.heap.size + 1, 0, none⟩) rfl (loadVar58 k9)) rfl ?_
    exact ⟨rfl, far_set2 F8.out _ _ _ _ _ (.inr (Nat.le_succ _)), (KN7.out.setOther _ _ (by omega)).setOther _ _ (by omega)⟩
  go_region_held (fun w' => w'.cell? ⟨b, 3 + k * 2, none⟩ = some (.pointer o) ∧ w'.cell? ⟨b, 3 + k * 2 + 1, none⟩ = some (.int .i64 ps) ∧ w'.cell? ⟨w.heap.size, 0, none⟩ = some (.pointer (some ⟨b, 0, none⟩)) ∧ w'.cell? ⟨w.heap.size, 1, none⟩ = some (.int .i64 pl) ∧ w'.cell? ⟨w.heap.size, 2, none⟩ = some (.int .i64 k) ∧
    w'.cell? ⟨wb, 1, none⟩ = some (.int .i64 pl0) ∧ Below w.heap.size w w' ∧ w.heap.size ≤ w'.heap.size)
    (first
      | exact HS1D
      | exact S5
      | exact SpS.later S5 ((Below.refl _ _).alloc (Nat.le_refl _) _)
      | exact SpS.later HS1D ((Below.refl _ _).alloc (Nat.le_refl _) _)
      | (refine SpS.set2 S5 _ _ ?_ ?_ ?_ ?_ <;> omega))
    (first
      | (go_at_call 97; refine (HLK _).out.mono ?_; rintro e w5 ⟨rfl, hb5⟩; first
          | have S5 := SpS.later HS1D hb5
          | (have S5 := SpS.later (SpS.later HS1D ((Below.refl _ _).alloc (Nat.le_refl _) _)) hb5; obtain ⟨z0, z1, z2, z3⟩ := newbox hb5)))
  · exact hfin _ _ (SpS.later S5 ((Below.refl _ _).alloc (Nat.le_refl _) _)) (Blk.new _ _ _) (((drewB _ 1).trans hb5).trans ((Below.refl _ _).alloc (((drewB _ 1).trans hb5).size) _)) (((drewB _ 1).trans hb5).size)
  · have kd := (Blk.new w1.drew 130 #[.pointer none, .int .i64 0]).later hb5
    have hb6 : Below w1.heap.size w1 w5 := (((drewB _ 1).alloc (Nat.le_refl _) _).trans (hb5.mono (by simp)))
    refine hfin w1.heap.size _ (SpS.set2 S5 _ _ (Nat.ne_of_lt hlt1) (Nat.ne_of_lt hlt3) (Nat.ne_of_lt hlt2) (Nat.le_of_lt hlt3)) ((kd.set 0 _).set 1 _) ?_ (Nat.le_refl _)
    exact below_set2 hb6 _ _ _ _ _ (Nat.le_refl _)
end Go.Proofs.YtpaphfofjfjdlaaGreat.Sk
/- The closure that lays links over what is left out. -/
namespace Go.Proofs.YtpaphfofjfjdlaaGreat.Sk
open Go.RowKit Go.Shelf
attribute [local go_sem] Oper.semAt_some

set_option maxRecDepth 100000 in
set_option maxHeartbeats 4000000 in
theorem over_any (b yb ty : Nat) (A WF : Array Value) (pl plf nn : Int) (k wf c : Nat) (hk : k < 32) (o : Option Addr) (ps : Int) (w : World) (hA : Blk w yb ty A) (h0 : A[3 + k * 2]? = some (.pointer o)) (h1 : A[3 + k * 2 + 1]? = some (.int .i64 ps)) (hp : -2000000 ≤ ps ∧ ps ≤ 2000000)
    (hW : Blk w wf 150 WF) (hw0 : WF[k * 3]? = some (.pointer (some ⟨yb, 0, none⟩))) (hw1 : WF[k * 3 + 1]? = some (.int .i64 plf)) (hw2 : WF[k * 3 + 2]? = some (.int .i64 k)) (hq : -2000000 ≤ pl ∧ pl ≤ 2000000) (hq0 : -2000000 ≤ plf ∧ plf ≤ 2000000) (hc : Blk w c 3 #[.int .i64 nn]) (hn : 0 ≤ nn ∧ nn ≤ 2000000) :
    Calls Tryz.prog 182 #[.agg #[.pointer (some ⟨b, 0, none⟩), .int .i64 pl, .int .i64 k], .pointer (some ⟨wf, 0, none⟩), .pointer (some ⟨c, 0, none⟩)] w fun e w' => e = .returned (.agg #[.pointer o, .int .i64 (plf - pl + ps - nn)]) ∧ Below w.heap.size w w' := by
  obtain ⟨hp1, hp2⟩ := hp
  obtain ⟨hq1, hq2⟩ := hq
  obtain ⟨hq3, hq4⟩ := hq0
  obtain ⟨hn1, hn2⟩ := hn
  have HLK := fun w => Lib.hid (link_any yb plf k hk w)
  have hb1 : Below w.heap.size w ((w.alloc (.cells #[.pointer (some ⟨b, 0, none⟩), .int .i64 pl, .int .i64 k] 148)).alloc (.cells #[.pointer none, .int .i64 0] 130)) := ((Below.refl _ _).alloc (Nat.le_refl _) _).alloc (by simp) _
  have kR : Blk ((w.alloc (.cells #[.pointer (some ⟨b, 0, none⟩), .int .i64 pl, .int .i64 k] 148)).alloc (.cells #[.pointer none, .int .i64 0] 130)) (w.heap.size + 1) 130 #[.pointer none, .int .i64 0] := by
    have := Blk.new (w.alloc (.cells #[.pointer (some ⟨b, 0, none⟩), .int .i64 pl, .int .i64 k] 148)) 130 #[.pointer none, .int .i64 0]; simpa using this
  have kS : Blk ((w.alloc (.cells #[.pointer (some ⟨b, 0, none⟩), .int .i64 pl, .int .i64 k] 148)).alloc (.cells #[.pointer none, .int .i64 0] 130)) w.heap.size 148 #[.pointer (some ⟨b, 0, none⟩), .int .i64 pl, .int .i64 k] := (Blk.new _ _ _).alloc _
  have e0 := (hW.cell _).trans hw0
  have e1 := (hW.cell _).trans hw1
  have e2 := (hW.cell _).trans hw2
  have hlW := hW.lt
  have HA := Lib.hid hA
  have HC := Lib.hid hc
  have HB1 := Lib.hid hb1
  have HR := Lib.hid kR
  have HS := Lib.hid kS
  clear hb1 kR kS hA hW hw0 hw1 hw2 hc
  go_enter Tryz.func182, Tryz.ntmps182
  go_wp2_with fail
  refine (HLK _).out.mono ?_
  rintro e w2 ⟨rfl, hb2⟩
  have hba : Below ((w.alloc (.cells #[.pointer (some ⟨b, 0, none⟩), .int .i64 pl, .int .i64 k] 148)).alloc (.cells #[.pointer none, .int .i64 0] 130)).heap.size ((w.alloc (.cells #[.pointer (some ⟨b, 0, none⟩), .int .i64 pl, .int .i64 k] 148)).alloc (.cells #[.pointer none, .int .i64 0] 130)) w2 := ((Below.refl _ _).alloc (Nat.le_refl _) _).trans (hb2.mono (by simp))
  have hb3 := HB1.out.trans (hba.mono HB1.out.size)
  have c0 := ((HA.out.later hb3).cell _).trans h0
  have c1 := ((HA.out.later hb3).cell _).trans h1
  obtain ⟨g0, g1⟩ := facts1 (HC.out.later hb3)
  obtain ⟨r0, r1, r2, r3⟩ := facts2 (HR.out.later hba)
  have s1 := (facts3 (HS.out.later hba)).2.1
  have kB := (Blk.new ((w.alloc (.cells #[.pointer (some ⟨b, 0, none⟩), .int .i64 pl, .int .i64 k] 148)).alloc (.cells #[.pointer none, .int .i64 0] 130)) 148 #[.pointer (some ⟨yb, 0, none⟩), .int .i64 plf, .int .i64 k]).later hb2
  simp only [World.size_alloc] at kB
  have t1 := (facts3 kB).2.1
  have z1 := kB.lt
  have z2 := (HR.out.later hba).lt
  have z3 := (HC.out.later hb3).lt
  have z0 : w.heap.size < w2.heap.size := by omega
  have KR := Lib.hid (HR.out.later hba)
  have HB3 := Lib.hid hb3
  clear hb2 hb3 hba kB e0 e1 e2 h0 h1
  go_wp2_with fail
  have k5 := ((KR.out.set 0 (.pointer o)).set 1 (.int .i64 (plf - pl + ps - nn))).alloc (Obj.cells #[Value.pointer o, Value.int IntKind.i64 ps] 130)
  refine bodyPost_ret (results_cell Tryz.results182 (b := ⟨w.heap.size + 1, 0, none⟩) rfl (loadVar58 k5)) rfl ?_
  have h3 := HB3.out
  refine ⟨rfl, Below.alloc ?_ (by simpa [World.setCell] using h3.size) _⟩
  exact below_set2 h3 _ _ _ _ _ (by omega)
end Go.Proofs.YtpaphfofjfjdlaaGreat.Sk
/- A node put in: what its links, and those of the others, come to. -/
namespace Go.Proofs.YtpaphfofjfjdlaaGreat.Sk
open Go.RowKit Go.Shelf

def insF (F : List Nd) (a : Nat) (x : Nd) : List Nd := F.take (a + 1) ++ x :: F.drop (a + 1)
variable {F : List Nd} {a : Nat} {x : Nd}
theorem insF_len (h : a < F.length) : (insF F a x).length = F.length + 1 := by unfold insF; simp; omega
theorem insF_le (h : a < F.length) {i : Nat} (hi : i ≤ a) : (insF F a x)[i]? = F[i]? := by
  unfold insF; rw [List.getElem?_append_left (by simp; omega), List.getElem?_take_of_lt (by omega)]
theorem insF_at (h : a < F.length) : (insF F a x)[a + 1]? = some x := by
  unfold insF; rw [List.getElem?_append_right (by simp; omega)]; simp [Nat.min_eq_left (show a + 1 ≤ F.length by omega)]
theorem insF_gt (h : a < F.length) {i : Nat} (hi : a < i) : (insF F a x)[i + 1]? = F[i]? := by
  unfold insF
  rw [List.getElem?_append_right (by simp; omega), List.length_take, Nat.min_eq_left (show a + 1 ≤ F.length by omega), show i + 1 - (a + 1) = (i - (a + 1)) + 1 by omega, List.getElem?_cons_succ, List.getElem?_drop]
  congr 1; omega
theorem lev_le (h : a < F.length) {i : Nat} (hi : i ≤ a) : lev (insF F a x) i = lev F i := by unfold lev; rw [insF_le h hi]
theorem lev_at (h : a < F.length) : lev (insF F a x) (a + 1) = x.l := by unfold lev; rw [insF_at h]; rfl
theorem lev_gt (h : a < F.length) {i : Nat} (hi : a < i) : lev (insF F a x) (i + 1) = lev F i := by unfold lev; rw [insF_gt h hi]
theorem adr_le (h : a < F.length) {i : Nat} (hi : i ≤ a) : adr (insF F a x) i = adr F i := by unfold adr; rw [insF_le h hi]
theorem adr_at (h : a < F.length) : adr (insF F a x) (a + 1) = .pointer (some ⟨x.b, 0, none⟩) := by unfold adr; rw [insF_at h]; rfl
theorem adr_gt (h : a < F.length) {i : Nat} (hi : a < i) : adr (insF F a x) (i + 1) = adr F i := by unfold adr; rw [insF_gt h hi]

/-- From the last one ahead, of a level that the new one has: to the new one. -/
theorem nxt_new (h : a < F.length) {k q : Nat} (h0 : k < lev F 0) (hq : q = last F k a) (hk : k < x.l) : nxt (insF F a x) k q = a + 1 := by
  obtain ⟨l1, l2, l3⟩ := last_spec F k h0 a
  subst hq
  refine nxt_unique (by rw [insF_len h]; omega) (by omega) (by rw [insF_len h]; omega) (fun i h1 h2 => ?_) (fun _ => by rw [lev_at h]; exact hk)
  rw [lev_le h (by omega)]
  exact l3 i h1 (by omega)
theorem nxt_last (h : a < F.length) {k : Nat} (h0 : k < lev F 0) : a < nxt F k (last F k a) := by
  obtain ⟨l1, l2, l3⟩ := last_spec F k h0 a
  obtain ⟨n1, n2, n3, n4, _⟩ := nxt_spec F k (last F k a) (by omega)
  rcases Nat.lt_or_ge a (nxt F k (last F k a)) with e | e
  · exact e
  · have := l3 _ n1 e
    have := n4 (by omega)
    omega
/-- The others: one place on, if it lies behind. -/
theorem nxt_pass (h : a < F.length) {k q : Nat} (h0 : k < lev F 0) (hq : q = last F k a) (hk : ¬ k < x.l) : nxt (insF F a x) k q = nxt F k q + 1 := by
  obtain ⟨l1, l2, l3⟩ := last_spec F k h0 a
  have ha := nxt_last h h0
  subst hq
  obtain ⟨n1, n2, n3, n4, _⟩ := nxt_spec F k (last F k a) (by omega)
  refine nxt_unique (by rw [insF_len h]; omega) (by omega) (by rw [insF_len h]; omega) (fun i h1 h2 => ?_) (fun hl => ?_)
  · by_cases e : i ≤ a
    · rw [lev_le h e]; exact n3 i h1 (by omega)
    · by_cases e2 : i = a + 1
      · subst e2; rw [lev_at h]; omega
      · obtain ⟨j, rfl⟩ : ∃ j, i = j + 1 := ⟨i - 1, by omega⟩
        rw [lev_gt h (by omega)]; exact n3 j (by omega) (by omega)
  · rw [insF_len h] at hl
    rw [lev_gt h ha]
    exact n4 (by omega)
theorem nxt_front (h : a < F.length) {k q : Nat} (h0 : k < lev F 0) (hq : q ≤ a) (hkq : k < lev F q) (hne : q ≠ last F k a) : nxt (insF F a x) k q = nxt F k q ∧ nxt F k q ≤ a := by
  obtain ⟨l1, l2, l3⟩ := last_spec F k h0 a
  obtain ⟨n1, n2, n3, n4, _⟩ := nxt_spec F k q (by omega)
  have hql : q < last F k a := by
    rcases Nat.lt_trichotomy q (last F k a) with e | e | e
    · exact e
    · exact absurd e hne
    · have := l3 q e hq; omega
  have hle : nxt F k q ≤ last F k a := by
    rcases Nat.lt_or_ge (last F k a) (nxt F k q) with e | e
    · have := n3 _ hql e; omega
    · exact e
  refine ⟨nxt_unique (by rw [insF_len h]; omega) n1 (by rw [insF_len h]; omega) (fun i h1 h2 => ?_) (fun _ => ?_), by omega⟩
  · rw [lev_le h (by omega)]; exact n3 i h1 h2
  · rw [lev_le h (by omega)]; exact n4 (by omega)
theorem nxt_own (h : a < F.length) {k : Nat} (h0 : k < lev F 0) : nxt (insF F a x) k (a + 1) = nxt F k (last F k a) + 1 := by
  obtain ⟨l1, l2, l3⟩ := last_spec F k h0 a
  have ha := nxt_last h h0
  obtain ⟨n1, n2, n3, n4, _⟩ := nxt_spec F k (last F k a) (by omega)
  refine nxt_unique (by rw [insF_len h]; omega) (by omega) (by rw [insF_len h]; omega) (fun i h1 h2 => ?_) (fun hl => ?_)
  · obtain ⟨j, rfl⟩ : ∃ j, i = j + 1 := ⟨i - 1, by omega⟩
    rw [lev_gt h (by omega)]; exact n3 j (by omega) (by omega)
  · rw [insF_len h] at hl
    rw [lev_gt h ha]
    exact n4 (by omega)
theorem nxt_back (h : a < F.length) {k q : Nat} (hq : a < q) (hql : q < F.length) : nxt (insF F a x) k (q + 1) = nxt F k q + 1 := by
  obtain ⟨n1, n2, n3, n4, _⟩ := nxt_spec F k q hql
  refine nxt_unique (by rw [insF_len h]; omega) (by omega) (by rw [insF_len h]; omega) (fun i h1 h2 => ?_) (fun hl => ?_)
  · obtain ⟨j, rfl⟩ : ∃ j, i = j + 1 := ⟨i - 1, by omega⟩
    rw [lev_gt h (by omega)]; exact n3 j (by omega) (by omega)
  · rw [insF_len h] at hl
    rw [lev_gt h (by omega)]
    exact n4 (by omega)

/-- The links while k levels have been laid. -/
def lkJ (F : List Nd) (a l nb k : Nat) (q k' : Nat) : Value × Int :=
  if k' < k ∧ q = last F k' a then (if k' < l then (.pointer (some ⟨nb, 0, none⟩), (a : Int) - q) else ((lk0 F q k').1, (lk0 F q k').2 + 1)) else lk0 F q k'
theorem lkJ_zero (F : List Nd) (a l nb q k' : Nat) : lkJ F a l nb 0 q k' = lk0 F q k' := by unfold lkJ; rw [if_neg (by omega)]

/-- Behind all levels: the links of the list with the new one in it. -/
theorem lk_ins_le (h : a < F.length) (h32 : lev F 0 = 32) {k q : Nat} (hk : k < 32) (hq : q ≤ a) (hkq : k < lev F q) : lk0 (insF F a x) q k = lkJ F a x.l x.b 32 q k := by
  unfold lkJ
  by_cases e : q = last F k a
  · rw [if_pos ⟨hk, e⟩]
    by_cases e2 : k < x.l
    · rw [if_pos e2]
      unfold lk0
      rw [nxt_new h (by omega) e e2, adr_at h]
      refine congrArg _ ?_
      omega
    · rw [if_neg e2]
      unfold lk0
      have := nxt_last (k := k) h (by omega)
      rw [← e] at this
      rw [nxt_pass h (by omega) e e2, adr_gt h this]
      refine congrArg _ ?_
      show ((nxt F k q + 1 : Nat) : Int) - q - 1 = _
      omega
  · rw [if_neg (fun t => e t.2)]
    unfold lk0
    obtain ⟨e1, e2⟩ := nxt_front (x := x) h (by omega) hq hkq e
    rw [e1, adr_le h e2]
theorem lk_ins_at (h : a < F.length) (h32 : lev F 0 = 32) {k : Nat} (hk : k < 32) : lk0 (insF F a x) (a + 1) k = ((lk0 F (last F k a) k).1, (lk0 F (last F k a) k).2 - ((a : Int) - last F k a)) := by
  unfold lk0
  have := nxt_last (k := k) h (by omega)
  rw [nxt_own h (by omega), adr_gt h this]
  refine congrArg _ ?_
  show ((nxt F k (last F k a) + 1 : Nat) : Int) - ((a + 1 : Nat) : Int) - 1 = _
  omega
theorem lk_ins_gt (h : a < F.length) {k q : Nat} (hq : a < q) (hql : q < F.length) : lk0 (insF F a x) (q + 1) k = lk0 F q k := by
  unfold lk0
  obtain ⟨n1, _⟩ := nxt_spec F k q hql
  rw [nxt_back h hq hql, adr_gt h (by omega)]
  refine congrArg _ ?_
  show ((nxt F k q + 1 : Nat) : Int) - ((q + 1 : Nat) : Int) - 1 = _
  omega
theorem lkJ_gt {l nb k q k' : Nat} (hq : a < q) (h0 : k' < lev F 0) : lkJ F a l nb k q k' = lk0 F q k' := by
  unfold lkJ
  rw [if_neg (fun t => by have := (last_spec F k' h0 a).1; omega)]

/-! ### Memory -/
variable {W : World} {lk : Nat → Nat → Value × Int} {ah : Nat → Value} {n : Int}
theorem NodeA.set {A : Array Value} {q : Nat} {x : Nd} {lk lk' : Nat → Value × Int} {ah : Value} {n : Int} (h : NodeA A q x lk ah n) {k : Nat} (hk : k < 32) (v : Value) (u : Int) (h1 : lk' k = (v, u)) (h2 : ∀ k', k' ≠ k → lk' k' = lk k') :
    NodeA ((A.setIfInBounds (3 + k * 2) v).setIfInBounds (3 + k * 2 + 1) (.int .i64 u)) q x lk' ah n := by
  have hs : 67 ≤ A.size := by rw [h.size]; unfold szq; split <;> decide
  have far : ∀ i, i ≠ 3 + k * 2 → i ≠ 3 + k * 2 + 1 → ((A.setIfInBounds (3 + k * 2) v).setIfInBounds (3 + k * 2 + 1) (.int .i64 u))[i]? = A[i]? := fun i e1 e2 => by
    rw [Array.getElem?_setIfInBounds_ne (Ne.symm e2), Array.getElem?_setIfInBounds_ne (Ne.symm e1)]
  refine ⟨by simpa using h.size, (far 0 (by omega) (by omega)).trans h.m, (far 1 (by omega) (by omega)).trans h.s, (far 2 (by omega) (by omega)).trans h.a, fun k' hk' => ?_, fun hq => (far 67 (by omega) (by omega)).trans (h.n hq)⟩
  by_cases e : k' = k
  · subst e
    rw [h1]
    constructor
    · rw [Array.getElem?_setIfInBounds_ne (by omega), Array.getElem?_setIfInBounds_self_of_lt (by omega)]
    · rw [Array.getElem?_setIfInBounds_self_of_lt (by simp; omega)]
  · rw [h2 k' e]
    exact ⟨(far _ (by omega) (by omega)).trans (h.link k' hk').1, (far _ (by omega) (by omega)).trans (h.link k' hk').2⟩
theorem Sk.setLink (h : Sk W F lk ah n) {q k : Nat} {x : Nd} (hq : F[q]? = some x) (hk : k < 32) (v : Value) (u : Int) (lk' : Nat → Nat → Value × Int) (h1 : lk' q k = (v, u)) (h2 : ∀ q' k', q' ≠ q ∨ k' ≠ k → lk' q' k' = lk q' k') :
    Sk ((W.setCell ⟨x.b, 3 + k * 2, none⟩ v).setCell ⟨x.b, 3 + k * 2 + 1, none⟩ (.int .i64 u)) F lk' ah n := by
  refine ⟨fun q' x' hx' => ?_, h.inj, h.lev⟩
  obtain ⟨A, hA, hN⟩ := h.node q' x' hx'
  by_cases e : q' = q
  · subst e
    rw [hq] at hx'
    cases hx'
    exact ⟨_, (hA.set _ _).set _ _, hN.set hk v u h1 (fun k' hk' => h2 _ _ (.inr hk'))⟩
  · have hne : x'.b ≠ x.b := fun e2 => e (h.inj _ _ _ _ hx' hq e2)
    refine ⟨A, (hA.setOther _ _ hne).setOther _ _ hne, ?_⟩
    have : lk' q' = lk q' := funext fun k' => h2 _ _ (.inl e)
    rw [this]; exact hN
theorem NodeA.setAh {A : Array Value} {q : Nat} {x : Nd} {lk : Nat → Value × Int} {ah : Value} {n : Int} (h : NodeA A q x lk ah n) (v : Value) : NodeA (A.setIfInBounds 2 v) q x lk v n := by
  have hs : 67 ≤ A.size := by rw [h.size]; unfold szq; split <;> decide
  have far : ∀ i, i ≠ 2 → (A.setIfInBounds 2 v)[i]? = A[i]? := fun i e => Array.getElem?_setIfInBounds_ne (Ne.symm e)
  exact ⟨by simpa using h.size, (far 0 (by omega)).trans h.m, (far 1 (by omega)).trans h.s, Array.getElem?_setIfInBounds_self_of_lt (by omega), fun k' hk' => ⟨(far _ (by omega)).trans (h.link k' hk').1, (far _ (by omega)).trans (h.link k' hk').2⟩, fun hq => (far 67 (by omega)).trans (h.n hq)⟩
theorem Sk.setAh (h : Sk W F lk ah n) {q : Nat} {x : Nd} (hq : F[q]? = some x) (v : Value) (ah' : Nat → Value) (h1 : ah' q = v) (h2 : ∀ q', q' ≠ q → ah' q' = ah q') : Sk (W.setCell ⟨x.b, 2, none⟩ v) F lk ah' n := by
  refine ⟨fun q' x' hx' => ?_, h.inj, h.lev⟩
  obtain ⟨A, hA, hN⟩ := h.node q' x' hx'
  by_cases e : q' = q
  · subst e
    rw [hq] at hx'
    cases hx'
    exact ⟨_, hA.set _ _, by rw [h1]; exact hN.setAh v⟩
  · have hne : x'.b ≠ x.b := fun e2 => e (h.inj _ _ _ _ hx' hq e2)
    exact ⟨A, hA.setOther _ _ hne, by rw [h2 _ e]; exact hN⟩
theorem Sk.setN (h : Sk W F lk ah n) {x : Nd} (hq : F[0]? = some x) (n' : Int) : Sk (W.setCell ⟨x.b, 67, none⟩ (.int .i64 n')) F lk ah n' := by
  refine ⟨fun q' x' hx' => ?_, h.inj, h.lev⟩
  obtain ⟨A, hA, hN⟩ := h.node q' x' hx'
  have far : ∀ i, i ≠ 67 → (A.setIfInBounds 67 (.int .i64 n'))[i]? = A[i]? := fun i e => Array.getElem?_setIfInBounds_ne (Ne.symm e)
  have hl := (h.lev _ _ hx').2
  by_cases e : q' = 0
  · subst e
    rw [hq] at hx'
    cases hx'
    have hs := hN.size
    exact ⟨_, hA.set _ _, ⟨by simpa using hN.size, (far 0 (by omega)).trans hN.m, (far 1 (by omega)).trans hN.s, (far 2 (by omega)).trans hN.a, fun k' hk' => ⟨(far _ (by omega)).trans (hN.link k' hk').1, (far _ (by omega)).trans (hN.link k' hk').2⟩, fun _ => Array.getElem?_setIfInBounds_self_of_lt (by rw [hs]; decide)⟩⟩
  · have hne : x'.b ≠ x.b := fun e2 => e (h.inj _ _ _ _ hx' hq e2)
    exact ⟨A, hA.setOther _ _ hne, ⟨hN.size, hN.m, hN.s, hN.a, hN.link, fun e2 => absurd e2 e⟩⟩
/-- The nodes and one more. -/
theorem sk_insert (h : Sk W F lk ah n) (ha : a < F.length) {B : Array Value} (hB : Blk W x.b 133 B) (hx : 0 < x.l ∧ x.l ≤ 32) (lk' : Nat → Nat → Value × Int) (ah' : Nat → Value) (hN : NodeA B (a + 1) x (lk' (a + 1)) (ah' (a + 1)) n) (hfresh : ¬ isB F x.b)
    (h1 : ∀ q k, q ≤ a → k < lev F q → lk' q k = lk q k) (h2 : ∀ q k, a < q → q < F.length → k < lev F q → lk' (q + 1) k = lk q k) (h3 : ∀ q, q ≤ a → ah' q = ah q) (h4 : ∀ q, a < q → q < F.length → ah' (q + 1) = ah q) : Sk W (insF F a x) lk' ah' n := by
  have part : ∀ (q : Nat) (y : Nd), (insF F a x)[q]? = some y → (q ≤ a ∧ F[q]? = some y) ∨ (q = a + 1 ∧ y = x) ∨ (∃ i, q = i + 1 ∧ a < i ∧ F[i]? = some y) := fun q y hy => by
    rcases Nat.lt_trichotomy q (a + 1) with e | e | e
    · rw [insF_le ha (by omega)] at hy; exact .inl ⟨by omega, hy⟩
    · subst e; rw [insF_at ha] at hy; cases hy; exact .inr (.inl ⟨rfl, rfl⟩)
    · obtain ⟨i, rfl⟩ : ∃ i, q = i + 1 := ⟨q - 1, by omega⟩
      rw [insF_gt ha (by omega)] at hy; exact .inr (.inr ⟨i, rfl, by omega, hy⟩)
  refine ⟨fun q y hy => ?_, fun q q' y y' hy hy' hb => ?_, fun q y hy => ?_⟩
  · rcases part q y hy with ⟨e, hy'⟩ | ⟨rfl, rfl⟩ | ⟨i, rfl, e, hy'⟩
    · obtain ⟨A, hA, hNA⟩ := h.node q y hy'
      refine ⟨A, hA, hNA.size, hNA.m, hNA.s, by rw [h3 q e]; exact hNA.a, fun k hk => ?_, hNA.n⟩
      rw [h1 q k e (by rw [lev_some hy']; exact hk)]
      exact hNA.link k hk
    · exact ⟨B, by unfold tyq; rw [if_neg (by omega)]; exact hB, hN⟩
    · obtain ⟨A, hA, hNA⟩ := h.node i y hy'
      have hil := (List.getElem?_eq_some_iff.1 hy').1
      refine ⟨A, by unfold tyq at hA ⊢; rw [if_neg (by omega)] at hA ⊢; exact hA, by have := hNA.size; unfold szq at this ⊢; rw [if_neg (by omega)] at this ⊢; exact this, hNA.m, hNA.s, by rw [h4 i e hil]; exact hNA.a, fun k hk => ?_, fun e2 => by omega⟩
      rw [h2 i k e hil (by rw [lev_some hy']; exact hk)]
      exact hNA.link k hk
  · rcases part q y hy with ⟨e, hz⟩ | ⟨rfl, rfl⟩ | ⟨i, rfl, e, hz⟩ <;> rcases part q' y' hy' with ⟨e', hz'⟩ | ⟨rfl, rfl⟩ | ⟨i', rfl, e', hz'⟩
    · exact h.inj _ _ _ _ hz hz' hb
    · exact absurd (hb ▸ isB_at hz) hfresh
    · have := h.inj _ _ _ _ hz hz' hb; omega
    · exact absurd (hb ▸ isB_at hz') hfresh
    · rfl
    · exact absurd (hb ▸ isB_at hz') hfresh
    · have := h.inj _ _ _ _ hz hz' hb; omega
    · exact absurd (hb ▸ isB_at hz) hfresh
    · have := h.inj _ _ _ _ hz hz' hb; omega
  · rcases part q y hy with ⟨e, hz⟩ | ⟨rfl, rfl⟩ | ⟨i, rfl, e, hz⟩
    · exact h.lev _ _ hz
    · exact hx
    · exact h.lev _ _ hz
end Go.Proofs.YtpaphfofjfjdlaaGreat.Sk
