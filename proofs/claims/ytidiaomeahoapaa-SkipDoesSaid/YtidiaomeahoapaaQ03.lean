/- Texts of one kind in one: At, Relink, Split. -/
import Derived.Test.YtidiaomeahoapaaQ02
import Derived.Deep.RegionHeld
/- Seek, At. -/
namespace Go.Proofs.Ytidiaomeahoapaa
open Go.RowKit Go.Shelf
attribute [local go_sem] Oper.semAt_some

theorem info69 : (Try.prog.info? 69).map (·.size) = some 3 := by kernel_rfl
theorem index71 (F : List Nd) (a : Nat) (W : World) : (Instr.index 71 (.agg (wayA F a)) (.int .i64 0)).run Try.prog W = .ok (.agg (boxQ F 0 (last F 0 a))) W := by
  have he : (wayA F a).extract 0 3 = boxQ F 0 (last F 0 a) := by
    apply Array.ext_getElem?
    intro i
    rw [Array.getElem?_extract]
    by_cases hi : i < 3
    · have := wayA_at F a 0 i (by decide) hi
      simp at this
      simp [hi, this, wayA_size]
    · rw [if_neg (by simp [wayA_size]; omega), Array.getElem?_eq_none (by simp [boxQ]; omega)]
  have h69 : ∀ w, (isAgg 69).run Try.prog w = .ok true w := fun w => by
    unfold isAgg
    rw [Sem.run_bind, run_underlying (show Try.prog.underlying 69 = some _ from Try.underlying69) w]
    rfl
  cases hq : Try.prog.info? 69 with
  | none => have := info69; simp [hq] at this
  | some i =>
    have hs : i.size = 3 := by have := info69; simpa [hq] using this
    unfold Instr.index
    simp [asIntOf, Sem.run_bind, run_underlying under71, part, h69, sizeOf, typeInfo, hq, hs, he]

variable {w : World} {F : List Nd} {ah : Nat → Value} {n : Int}
theorem lev_pos (hw : Sk w F (lk0 F) ah n) (i : Nat) (hi : i < F.length) : 0 < lev F i := by
  rw [lev_some (List.getElem?_eq_getElem hi)]
  exact (hw.lev i _ (List.getElem?_eq_getElem hi)).1
theorem nxt_zero (hp : ∀ i, i < F.length → 0 < lev F i) (q : Nat) (hq : q < F.length) : nxt F 0 q = q + 1 :=
  nxt_unique hq (by omega) (by omega) (fun i h1 h2 => by omega) (fun h => hp _ h)

theorem seek_nil (m : ByteArray) (s : Int) (w : World) : Calls Try.prog 25 #[.pointer none, .agg #[.string m, .int .i64 s]] w fun e w' => e = .returned (.tuple #[.int .i64 0, .bool false]) ∧ Below w.heap.size w w' := by
  go_enter Try.func25, Try.ntmps25
  go_wp2
  go_returns
  exact ⟨rfl, (Below.refl _ _).alloc (Nat.le_refl _) _⟩

set_option maxRecDepth 100000 in
set_option maxHeartbeats 2000000 in
theorem seek_any (p : Nat) (L : List Nd) (hF : F = hd p :: L) (hw : Sk w F (lk0 F) ah n) (hN : F.length ≤ 1000000) (m : ByteArray) (s : Int) (a : Nat) (ha : a < F.length) (hq : ∀ q x, 0 < q → F[q]? = some x → lessE x.m x.s m s = decide (q ≤ a)) :
    Calls Try.prog 25 #[.pointer (some ⟨p, 0, none⟩), .agg #[.string m, .int .i64 s]] w fun e w' => e = .returned (.tuple #[.int .i64 a, .bool (entAt F (a + 1) m s)]) ∧ Below w.heap.size w w' := by
  have hp := lev_pos hw
  have hla := last_zero F hp a ha
  have hnx := nxt_zero hp a ha
  have hix := index71 F a
  rw [hla] at hix
  have hb1 : Below w.heap.size w (w.alloc (.cells #[.string m, .int .i64 s] 32)) := (Below.refl _ _).alloc (Nat.le_refl _) _
  have kE : Blk (w.alloc (.cells #[.string m, .int .i64 s] 32)) w.heap.size 32 #[.string m, .int .i64 s] := Blk.new _ _ _
  have HT := Lib.hid (toEntry_any p L hF (hw.later hb1) hN m s a ha hq)
  obtain ⟨x, hx⟩ : ∃ x, F[a]? = some x := ⟨_, List.getElem?_eq_getElem ha⟩
  have hax := adr_some hx
  have HLD := fun (W : World) (hb : Below w.heap.size w W) => Lib.hid (leads_any (hw.later hb) 0 a (by decide) ha (hp a ha) m s)
  rw [hnx] at HLD
  unfold boxQ at hix
  have h00 : ((0 : Nat) : Int) = 0 := rfl
  simp only [hax, h00] at HLD hix
  clear h00
  have HB1 := Lib.hid hb1
  have HE := Lib.hid kE
  generalize wayA F a = WA at *
  generalize entAt F (a + 1) m s = bb at *
  have hN2 : (a : Int) ≤ 1000000 := by omega
  clear hb1 kE hw hF hq hp hla hnx hx hax ha hN
  go_enter Try.func25, Try.ntmps25
  go_wp2_with fail
  refine HT.out.mono ?_
  rintro e w2 ⟨rfl, hb2⟩
  have e0 := (facts2 (HE.out.later hb2)).1
  have e1 := (facts2 (HE.out.later hb2)).2.1
  have hb3 := HB1.out.trans (hb2.mono HB1.out.size)
  have hlt := (HE.out.later hb2).lt
  have kS := Blk.new w2 69 #[.pointer (some ⟨x.b, 0, none⟩), .int .i64 ((a : Int) - 1), .int .i64 0]
  have hb4 : Below w2.heap.size w2 (w2.alloc (.cells #[.pointer (some ⟨x.b, 0, none⟩), .int .i64 ((a : Int) - 1), .int .i64 0] 69)) := (Below.refl _ _).alloc (Nat.le_refl _) _
  have kE2 := (HE.out.later hb2).later hb4
  have hbw := hb3.trans (hb4.mono hb3.size)
  have HBW := Lib.hid hbw
  obtain ⟨w3, hw3⟩ : ∃ w3, w3 = w2.alloc (.cells #[.pointer (some ⟨x.b, 0, none⟩), .int .i64 ((a : Int) - 1), .int .i64 0] 69) := ⟨_, rfl⟩
  have HW3 := Lib.hid hw3
  rw [← hw3] at kS kE2 HBW
  have q0 := fun y : Ext w3 => y.cell (facts3 kS).1
  have q1 := fun y : Ext w3 => y.cell (facts3 kS).2.1
  have q2 := fun y : Ext w3 => y.cell (facts3 kS).2.2.1
  have q3 := fun y : Ext w3 => y.cell (facts2 kE2).1
  have q4 := fun y : Ext w3 => y.cell (facts2 kE2).2.1
  have HLD3 := fun y : Ext w3 => HLD y.w (HBW.out.trans (y.ok.mono HBW.out.size))
  have hne := Ext.one w3
  clear hb2 hb3 hb4 hbw hw3 kS kE2 HLD
  go_wp2_with fail
  rw [← HW3.out]
  refine region_ext (w1 := w3) (by kernel_rfl) (by kernel_rfl) (Below.refl _ _) ?_
  iterate 8 go_big_quiet_step ((go_at_call 41; exact Ext.call _ (HLD3 _).out))
  refine wpQuiet_nil ?_
  rintro _ ⟨y, rfl⟩
  go_wp2_with fail
  go_returns
  exact ⟨rfl, HBW.out.trans (y.ok.mono HBW.out.size)⟩

/-- At. -/
theorem zero32 (w : World) : (zeroValue 32).run Try.prog w = .ok (.agg #[.string ⟨#[]⟩, .int .i64 0]) w := (zero_of_info (n := 2) (by kernel_rfl)).1 w
set_option maxRecDepth 100000 in
theorem at_out (p : Option Addr) (v : Int) (w : World) (k : Int) (hl : ∀ w', Below w.heap.size w w' → Calls Try.prog 14 #[.pointer p] w' fun e w'' => e = .returned (.int .i64 k) ∧ w'' = w') (hv : v < 0 ∨ k ≤ v) :
    Calls Try.prog 13 #[.pointer p, .int .i64 v] w fun e w' => e = .returned (.tuple #[.agg #[.string ⟨#[]⟩, .int .i64 0], .bool false]) ∧ Below w.heap.size w w' := by
  have hb1 : Below w.heap.size w (w.alloc (.cells #[.string ⟨#[]⟩, .int .i64 0] 32)) := (Below.refl _ _).alloc (Nat.le_refl _) _
  have HL := Lib.hid (hl _ hb1)
  have HB := Lib.hid hb1
  clear hl hb1
  by_cases h0 : v < 0
  · clear hv
    go_enter Try.func13, Try.ntmps13
    go_wp2
    go_returns
    exact ⟨rfl, HB.out⟩
  · have hk : k ≤ v := by omega
    clear hv
    go_enter Try.func13, Try.ntmps13
    go_wp2_with fail
    refine HL.out.mono ?_
    rintro e w1 ⟨rfl, rfl⟩
    go_wp2
    go_returns
    exact ⟨rfl, HB.out⟩

set_option maxRecDepth 100000 in
set_option maxHeartbeats 2000000 in
theorem at_any (p : Nat) (L : List Nd) (hF : F = hd p :: L) (hw : Sk w F (lk0 F) ah n) (hn : n = L.length) (hN : F.length ≤ 1000000) (a : Nat) (x : Nd) (hx : L[a]? = some x) :
    Calls Try.prog 13 #[.pointer (some ⟨p, 0, none⟩), .int .i64 a] w fun e w' => e = .returned (.tuple #[.agg #[.string x.m, .int .i64 x.s], .bool true]) ∧ Below w.heap.size w w' := by
  have hp := lev_pos hw
  have haL : a < L.length := (List.getElem?_eq_some_iff.1 hx).1
  have hFl : F.length = L.length + 1 := by rw [hF]; rfl
  have ha : a < F.length := by omega
  have hla := last_zero F hp a ha
  have hnx := nxt_zero hp a ha
  have hix := index71 F a
  rw [hla] at hix
  have hb1 : Below w.heap.size w (w.alloc (.cells #[.string ⟨#[]⟩, .int .i64 0] 32)) := (Below.refl _ _).alloc (Nat.le_refl _) _
  have kR : Blk (w.alloc (.cells #[.string ⟨#[]⟩, .int .i64 0] 32)) w.heap.size 32 #[.string ⟨#[]⟩, .int .i64 0] := Blk.new _ _ _
  have HL := Lib.hid (len_any p L hF (hw.later hb1))
  have HT := Lib.hid (toPlace_any p L hF (hw.later hb1) hN a ha)
  obtain ⟨y, hy⟩ : ∃ y, F[a]? = some y := ⟨_, List.getElem?_eq_getElem ha⟩
  have hay := adr_some hy
  have hxF : F[a + 1]? = some x := by rw [hF]; simpa using hx
  obtain ⟨A, hA, hNA⟩ := hw.node _ y hy
  obtain ⟨B, hB, hNB⟩ := hw.node _ x hxF
  have c0 := (hA.cell 3).trans (hNA.link 0 (hw.lev _ _ hy).1).1
  unfold lk0 at c0
  rw [hnx, adr_some hxF] at c0
  have d0 := (hB.cell 0).trans hNB.m
  have d1 := (hB.cell 1).trans hNB.s
  have HLK := fun w => Lib.hid (link_any y.b ((a : Int) - 1) 0 (by decide) w)
  unfold boxQ at hix
  have h00 : ((0 : Nat) : Int) = 0 := rfl
  simp only [hay, h00] at HLK hix
  clear h00
  have HB1 := Lib.hid hb1
  have HR := Lib.hid kR
  have HA := Lib.hid hA
  have HB := Lib.hid hB
  have han : (a : Int) < n := by omega
  generalize wayA F a = WA at *
  clear hb1 kR hw hF hp hla hnx hx hy hay ha hN hFl haL hxF hA hNA hB hNB hn
  go_enter Try.func13, Try.ntmps13
  go_wp2_with fail
  refine HL.out.mono ?_
  rintro e w1 ⟨rfl, rfl⟩
  go_wp2_with fail
  refine HT.out.mono ?_
  rintro e w2 ⟨rfl, hb2⟩
  have hb3 := HB1.out.trans (hb2.mono HB1.out.size)
  have HB3 := Lib.hid hb3
  have kR2 := Lib.hid (HR.out.later hb2)
  clear hb2 hb3
  go_wp2_with fail
  refine (HLK _).out.mono ?_
  rintro e w3 ⟨rfl, hb2⟩
  have hb3 := HB3.out.trans (hb2.mono HB3.out.size)
  have c0' := (hb3.cell (p := ⟨y.b, 3, none⟩) HA.out.lt).trans c0
  have d0' := (hb3.cell (p := ⟨x.b, 0, none⟩) HB.out.lt).trans d0
  have d1' := (hb3.cell (p := ⟨x.b, 1, none⟩) HB.out.lt).trans d1
  obtain ⟨e0, e1, e2, e3⟩ := facts2 (kR2.out.later hb2)
  have HB4 := Lib.hid hb3
  have kR3 := Lib.hid (kR2.out.later hb2)
  clear hb2 hb3 c0 d0 d1
  go_wp2
  have g0 := (kR3.out.set 0 (.string x.m)).cell 0
  have g1 := ((kR3.out.set 0 (.string x.m)).set 1 (.int .i64 x.s)).cell 1
  simp at g0 g1
  refine bodyPost_ret (v := .tuple #[.agg #[.string x.m, .int .i64 x.s], .bool true]) (by simp [results, Try.results13, go_sem, g0, g1]) rfl ?_
  refine ⟨rfl, ?_⟩
  have hb4 := HB4.out
  exact ⟨hb4.os, hb4.tape, hb4.output, by simpa [World.setCell] using hb4.size, fun q hq => (Below.heap_setCell _ _ _ _ (Nat.ne_of_lt hq)).trans ((Below.heap_setCell _ _ _ _ (Nat.ne_of_lt hq)).trans (hb4.block q hq))⟩
end Go.Proofs.Ytidiaomeahoapaa
/- relink: the links of levels are laid anew, each as a closure says. -/
namespace Go.Proofs.Ytidiaomeahoapaa
open Go.RowKit Go.Shelf
attribute [local go_sem] Oper.semAt_some

/-- What a closure does with a level's link. -/
structure Links (F : List Nd) (a wb k0 N : Nat) (G : Nat) (caps : Array Value) (Inv : Nat → World → Prop) : Prop where
  enter : ∀ args w, (callFunc G args).run Try.prog w = .ok (.enter G args) w
  stable : ∀ k W W', Inv k W → Below W.heap.size W W' → Inv k W'
  way : ∀ k W, Inv k W → Blk W wb 71 (wayA F a)
  call : ∀ k W x, k0 ≤ k → k < k0 + N → Inv k W → F[last F k a]? = some x → Calls Try.prog G (#[.agg #[.pointer (some ⟨x.b, 0, none⟩), .int .i64 ((last F k a : Int) - 1), .int .i64 k]] ++ caps) W fun e w' =>
    ∃ nv ps u1 u2, e = .returned (.agg #[.pointer nv, .int .i64 ps]) ∧ w'.cell? ⟨x.b, 3 + k * 2, none⟩ = some u1 ∧ w'.cell? ⟨x.b, 3 + k * 2 + 1, none⟩ = some u2 ∧ w'.frozen? ⟨x.b, 3 + k * 2, none⟩ = false ∧ w'.frozen? ⟨x.b, 3 + k * 2 + 1, none⟩ = false ∧
      Inv (k + 1) ((w'.setCell ⟨x.b, 3 + k * 2, none⟩ (.pointer nv)).setCell ⟨x.b, 3 + k * 2 + 1, none⟩ (.int .i64 ps)) ∧ W.heap.size ≤ w'.heap.size

set_option maxRecDepth 100000 in
set_option maxHeartbeats 4000000 in
theorem relink_any {F : List Nd} {a wb k0 N : Nat} {G : Nat} {caps : Array Value} {Inv : Nat → World → Prop} (h : Links F a wb k0 N G caps Inv) (hF : ∀ k, k < 32 → last F k a < F.length) (hk : k0 + N ≤ 32) (cap : Nat) (w : World) (h0 : Inv k0 w) :
    Calls Try.prog 53 #[.func (.func G) #[] caps, .slice (some ⟨wb, k0 * 3, none⟩) N cap] w fun e w' => e = .returned (.tuple #[]) ∧ Inv (k0 + N) w' := by
  have HH := Lib.hid h
  have HFL := Lib.hid hF
  have henter := h.enter
  have HLK := fun b q k hk w => Lib.hid (link_any b q k hk w)
  have H0 := Lib.hid h0
  clear h hF h0
  have hN32 : (N : Int) ≤ 32 := by omega
  go_enter Try.func53, Try.ntmps53
  go_wp2
  go_loopw [8] (fun i wr => ∃ (k : Nat), i = .int .i64 k ∧ k ≤ N ∧ Inv (k0 + k) wr) (fun i _ => N - (intOf i).toNat)
  case atStart => exact ⟨0, rfl, by omega, H0.out⟩
  case round =>
    obtain ⟨k, rfl, hkN, hI⟩ := hrel
    by_cases hlt : k < N
    · have hwy := HH.out.way _ _ hI
      obtain ⟨c0, c1, c2⟩ := way_cells F a (k0 + k) (by omega)
      have e0 := (hwy.cell _).trans c0
      have e1 := (hwy.cell _).trans c1
      have e2 := (hwy.cell _).trans c2
      obtain ⟨x, hx⟩ : ∃ x, F[last F (k0 + k) a]? = some x := ⟨_, List.getElem?_eq_getElem (HFL.out _ (by omega))⟩
      rw [adr_some hx] at e0
      rw [show (k0 + k) * 3 = k0 * 3 + k * 3 by omega] at e0 e1 e2
      have HI := Lib.hid hI
      have HX := Lib.hid hx
      clear hI hx c0 c1 c2 hwy
      have HL2 := fun w => HLK x.b ((last F (k0 + k) a : Int) - 1) (k0 + k) (by omega) w
      have HC := fun (W : World) (hb : Below wr.heap.size wr W) => Lib.hid (HH.out.call (k0 + k) W x (by omega) (by omega) (HH.out.stable _ _ _ HI.out hb) HX.out)
      rw [Int.natCast_add] at HL2 HC
      have kb := Blk.new wr 69 #[.pointer (some ⟨x.b, 0, none⟩), .int .i64 ((last F (k0 + k) a : Int) - 1), .int .i64 ((k0 : Int) + k)]
      have hbw : Below wr.heap.size wr (wr.alloc (.cells #[.pointer (some ⟨x.b, 0, none⟩), .int .i64 ((last F (k0 + k) a : Int) - 1), .int .i64 ((k0 : Int) + k)] 69)) := (Below.refl _ _).alloc (Nat.le_refl _) _
      have KB := Lib.hid kb
      have HBW := Lib.hid hbw
      clear kb hbw HLK
      go_wp2_with fail
      go_region_with ((first
        | (go_at_call 36
           refine (HL2 _).out.mono ?_
           rintro e w2 ⟨rfl, hb2⟩
           have hb3 := HBW.out.trans (((drewB _ 1).trans hb2).mono HBW.out.size)
           have HCC := HC w2 hb3
           obtain ⟨f0, f1, f2, f3, f4, f5⟩ := facts3 (KB.out.later ((drewB _ 1).trans hb2))
           clear hb2)
        | (refine HCC.out.mono ?_
           rintro e w5 ⟨nv, ps, u1, u2, rfl, c1, c2, d1, d2, hI2, hz⟩
           have HI2 := Lib.hid hI2
           clear hI2)))
      all_goals (
        go_wp2
        exact ⟨⟨k + 1, by go_num, hlt, HI2.out⟩, by simp [intOf]; omega⟩)
    · obtain rfl : k = N := by omega
      go_wp2
      go_returns
      exact ⟨rfl, hI⟩
end Go.Proofs.Ytidiaomeahoapaa
/- The closures that lay links: split, pass, over. -/
namespace Go.Proofs.Ytidiaomeahoapaa
open Go.RowKit Go.Shelf
attribute [local go_sem] Oper.semAt_some

theorem size58 : (Try.prog.info? 58).map (·.size) = some 2 := by kernel_rfl
theorem loadVar58 {W : World} {b : Nat} {v0 v1 : Value} (h : Blk W b 58 #[v0, v1]) : (loadVar 58 ⟨b, 0, none⟩).run Try.prog W = .ok (.agg #[v0, v1]) W :=
  run_loadVar_row _ _ 58 58 #[v0, v1] (0, 0) _ h Try.underlying58 rfl size58
theorem below_set2 {w W : World} (h : Below w.heap.size w W) (b o1 o2 : Nat) (v1 v2 : Value) (hb : w.heap.size ≤ b) : Below w.heap.size w ((W.setCell ⟨b, o1, none⟩ v1).setCell ⟨b, o2, none⟩ v2) :=
  ⟨h.os, h.tape, h.output, by simpa [World.setCell] using h.size, fun q hq => (Below.heap_setCell _ _ _ _ (by show q ≠ b; omega)).trans ((Below.heap_setCell _ _ _ _ (by show q ≠ b; omega)).trans (h.block q hq))⟩

set_option maxRecDepth 100000 in
set_option maxHeartbeats 4000000 in
theorem pass_any (b t : Nat) (A : Array Value) (pl : Int) (k : Nat) (hk : k < 32) (o : Option Addr) (ps : Int) (w : World) (hA : Blk w b t A) (h0 : A[3 + k * 2]? = some (.pointer o)) (h1 : A[3 + k * 2 + 1]? = some (.int .i64 ps)) (hp : -2000000 ≤ ps ∧ ps ≤ 2000000) :
    Calls Try.prog 52 #[.agg #[.pointer (some ⟨b, 0, none⟩), .int .i64 pl, .int .i64 k]] w fun e w' => e = .returned (.agg #[.pointer o, .int .i64 (ps + 1)]) ∧ Below w.heap.size w w' := by
  have c0 := (hA.cell _).trans h0
  have c1 := (hA.cell _).trans h1
  have HLK := fun w => Lib.hid (link_any b pl k hk w)
  have HA := Lib.hid hA
  obtain ⟨p1, p2⟩ := hp
  have hb1 : Below w.heap.size w ((w.alloc (.cells #[.pointer (some ⟨b, 0, none⟩), .int .i64 pl, .int .i64 k] 69)).alloc (.cells #[.pointer none, .int .i64 0] 58)) := ((Below.refl _ _).alloc (Nat.le_refl _) _).alloc (by simp) _
  have kR : Blk ((w.alloc (.cells #[.pointer (some ⟨b, 0, none⟩), .int .i64 pl, .int .i64 k] 69)).alloc (.cells #[.pointer none, .int .i64 0] 58)) (w.heap.size + 1) 58 #[.pointer none, .int .i64 0] := by
    have := Blk.new (w.alloc (.cells #[.pointer (some ⟨b, 0, none⟩), .int .i64 pl, .int .i64 k] 69)) 58 #[.pointer none, .int .i64 0]; simpa using this
  have HB1 := Lib.hid hb1
  have HR := Lib.hid kR
  clear hb1 kR hA h0 h1
  go_enter Try.func52, Try.ntmps52
  go_wp2_with fail
  refine (HLK _).out.mono ?_
  rintro e w2 ⟨rfl, hb2⟩
  have hb3 := HB1.out.trans (hb2.mono HB1.out.size)
  have c0' := (hb3.cell (p := ⟨b, 3 + k * 2, none⟩) HA.out.lt).trans c0
  have c1' := (hb3.cell (p := ⟨b, 3 + k * 2 + 1, none⟩) HA.out.lt).trans c1
  have kR2 := HR.out.later hb2
  obtain ⟨e0, e1, e2, e3⟩ := facts2 kR2
  have z1 := kR2.lt
  have KR := Lib.hid kR2
  have HB3 := Lib.hid hb3
  clear hb2 hb3 c0 c1 kR2
  go_wp2_with fail
  have k5 := ((KR.out.set 0 (.pointer o)).set 1 (.int .i64 (ps + 1))).alloc (Obj.cells #[Value.pointer o, Value.int IntKind.i64 ps] 58)
  refine bodyPost_ret (results_cell Try.results52 (b := ⟨w.heap.size + 1, 0, none⟩) rfl (loadVar58 k5)) rfl ?_
  have h3 := HB3.out
  refine ⟨rfl, Below.alloc ?_ (by simpa [World.setCell] using h3.size) _⟩
  exact below_set2 h3 _ _ _ _ _ (by omega)

/-- What split's first line leans on. -/
abbrev SpS (b k s3 wb : Nat) (o : Option Addr) (ps pl pl0 : Int) (w : World) (w' : World) : Prop :=
  w'.cell? ⟨b, 3 + k * 2, none⟩ = some (.pointer o) ∧ w'.cell? ⟨b, 3 + k * 2 + 1, none⟩ = some (.int .i64 ps) ∧ w'.cell? ⟨s3, 0, none⟩ = some (.pointer (some ⟨b, 0, none⟩)) ∧ w'.cell? ⟨s3, 1, none⟩ = some (.int .i64 pl) ∧ w'.cell? ⟨s3, 2, none⟩ = some (.int .i64 k) ∧
    w'.cell? ⟨wb, 1, none⟩ = some (.int .i64 pl0) ∧ Below w.heap.size w w' ∧ w.heap.size ≤ w'.heap.size
theorem SpS.later {b k s3 wb : Nat} {o : Option Addr} {ps pl pl0 : Int} {w w' w5 : World} (h : SpS b k s3 wb o ps pl pl0 w w') (hb : Below w'.heap.size w' w5) : SpS b k s3 wb o ps pl pl0 w w5 := by
  obtain ⟨h1, h2, h3, h4, h5, h6, h7, h8⟩ := h
  have key : ∀ {a : Addr} {v : Value}, w'.cell? a = some v → w5.cell? a = some v := fun {a v} ha => (hb.cell (World.block_lt_of_cell? w' a ha)).trans ha
  exact ⟨key h1, key h2, key h3, key h4, key h5, key h6, h7.trans (hb.mono h8), Nat.le_trans h8 hb.size⟩

theorem far_set2 {S : Nat → Prop} {w W : World} (h : Far S w W) (b o1 o2 : Nat) (v1 v2 : Value) (hb : S b ∨ w.heap.size ≤ b) : Far S w ((W.setCell ⟨b, o1, none⟩ v1).setCell ⟨b, o2, none⟩ v2) :=
  (h.set ⟨b, o1, none⟩ v1 hb).set ⟨b, o2, none⟩ v2 hb
theorem newbox {w1 w5 : World} {c0 c1 : Value} (hb5 : Below (w1.drew.alloc (.cells #[c0, c1] 58)).heap.size (w1.drew.alloc (.cells #[c0, c1] 58)) w5) : w5.cell? ⟨w1.heap.size, 0, none⟩ = some c0 ∧ w5.cell? ⟨w1.heap.size, 1, none⟩ = some c1 ∧ w5.frozen? ⟨w1.heap.size, 0, none⟩ = false ∧ w5.frozen? ⟨w1.heap.size, 1, none⟩ = false :=
  facts2 ((Blk.new w1.drew 58 #[c0, c1]).later hb5)
theorem SpS.set2 {b k s3 wb : Nat} {o : Option Addr} {ps pl pl0 : Int} {w w' : World} {c : Nat} (h : SpS b k s3 wb o ps pl pl0 w w') (v0 v1 : Value) (h1 : b ≠ c) (h2 : s3 ≠ c) (h3 : wb ≠ c) (h4 : w.heap.size ≤ c) : SpS b k s3 wb o ps pl pl0 w ((w'.setCell ⟨c, 0, none⟩ v0).setCell ⟨c, 1, none⟩ v1) := by
  obtain ⟨t1, t2, t3, t4, t5, t6, t7, t8⟩ := h
  have key : ∀ (d i : Nat) (v : Value), d ≠ c → w'.cell? ⟨d, i, none⟩ = some v → ((w'.setCell ⟨c, 0, none⟩ v0).setCell ⟨c, 1, none⟩ v1).cell? ⟨d, i, none⟩ = some v := fun d i v hd hv => by
    have e : ((w'.setCell ⟨c, 0, none⟩ v0).setCell ⟨c, 1, none⟩ v1).heap[d]? = w'.heap[d]? := (Below.heap_setCell _ _ _ _ hd).trans (Below.heap_setCell _ _ _ _ hd)
    rw [← hv]
    unfold World.cell?
    simp only [e]
  exact ⟨key _ _ _ h1 t1, key _ _ _ h1 t2, key _ _ _ h2 t3, key _ _ _ h2 t4, key _ _ _ h2 t5, key _ _ _ h3 t6, below_set2 t7 _ _ _ _ _ h4, by simpa [World.setCell] using t8⟩

set_option maxRecDepth 100000 in
set_option maxHeartbeats 8000000 in
theorem split_any (b t : Nat) (A B WA : Array Value) (pl pl0 : Int) (k wb b6 nb : Nat) (hk : k < 32) (o : Option Addr) (ps : Int) (w : World) (hA : Blk w b t A) (h0 : A[3 + k * 2]? = some (.pointer o)) (h1 : A[3 + k * 2 + 1]? = some (.int .i64 ps)) (hp : -2000000 ≤ ps ∧ ps ≤ 2000000)
    (hW : Blk w wb 71 WA) (hpl : WA[1]? = some (.int .i64 pl0)) (hq : -2000000 ≤ pl ∧ pl ≤ 2000000) (hq0 : -2000000 ≤ pl0 ∧ pl0 ≤ 2000000) (h6 : Blk w b6 56 #[.pointer (some ⟨nb, 0, none⟩)]) (hnb : Blk w nb 61 B) (hB : B.size = 67) (_ : nb ≠ b) :
    Calls Try.prog 51 #[.agg #[.pointer (some ⟨b, 0, none⟩), .int .i64 pl, .int .i64 k], .pointer (some ⟨wb, 0, none⟩), .pointer (some ⟨b6, 0, none⟩)] w fun e w' => e = .returned (.agg #[.pointer (some ⟨nb, 0, none⟩), .int .i64 (pl0 - pl)]) ∧
      Far (fun q => q = nb) w w' ∧ Blk w' nb 61 ((B.setIfInBounds (3 + k * 2) (.pointer o)).setIfInBounds (3 + k * 2 + 1) (.int .i64 (ps - (pl0 - pl)))) := by
  have HLK := fun w => Lib.hid (link_any b pl k hk w)
  obtain ⟨w1, hw1⟩ : ∃ w1, w1 = (w.alloc (.cells #[.pointer (some ⟨b, 0, none⟩), .int .i64 pl, .int .i64 k] 69)).alloc (.cells #[.pointer none, .int .i64 0] 58) := ⟨_, rfl⟩
  have hb1 : Below w.heap.size w w1 := by rw [hw1]; exact ((Below.refl _ _).alloc (Nat.le_refl _) _).alloc (by simp) _
  have kS : Blk w1 w.heap.size 69 #[.pointer (some ⟨b, 0, none⟩), .int .i64 pl, .int .i64 k] := by rw [hw1]; exact (Blk.new _ _ _).alloc _
  have kR : Blk w1 (w.heap.size + 1) 58 #[.pointer none, .int .i64 0] := by
    rw [hw1]
    have := Blk.new (w.alloc (.cells #[.pointer (some ⟨b, 0, none⟩), .int .i64 pl, .int .i64 k] 69)) 58 #[.pointer none, .int .i64 0]; simpa using this
  have hS1 : SpS b k w.heap.size wb o ps pl pl0 w w1 :=
    ⟨((hA.later hb1).cell _).trans h0, ((hA.later hb1).cell _).trans h1, kS.cell 0, kS.cell 1, kS.cell 2, ((hW.later hb1).cell _).trans hpl, hb1, hb1.size⟩
  obtain ⟨hp1, hp2⟩ := hp
  obtain ⟨hq1, hq2⟩ := hq
  obtain ⟨hq3, hq4⟩ := hq0
  have hwr : IntKind.i64.wrap (pl0 - pl) = pl0 - pl := IntWalk.i64_in _ (by omega)
  have hwr2 : IntKind.i64.wrap (ps - (pl0 - pl)) = ps - (pl0 - pl) := IntWalk.i64_in _ (by omega)
  have HS1 := Lib.hid hS1
  have HR := Lib.hid kR
  have HW1 := Lib.hid hw1
  have HB := Lib.hid hb1
  have H6 := Lib.hid h6
  have HNB := Lib.hid hnb
  have hlt1 : b < w1.heap.size := Nat.lt_of_lt_of_le hA.lt hb1.size
  have hlt2 : wb < w1.heap.size := Nat.lt_of_lt_of_le hW.lt hb1.size
  have hlt3 := kS.lt
  clear kS kR hS1 hw1 hb1 h6 hnb hA h0 h1 hW hpl
  go_enter Try.func51, Try.ntmps51
  go_wp2_with fail
  rw [← HW1.out]
  have HS1D : SpS b k w.heap.size wb o ps pl pl0 w w1.drew := HS1.out.later (drewB _ 1)
  rename_i K1 hK1
  have HK1 := Lib.hid hK1
  clear hK1
  have hfin : ∀ (d : Nat) (W6 : World), SpS b k w.heap.size wb o ps pl pl0 w W6 → Blk W6 d 58 #[.pointer o, .int .i64 ps] → Below w1.heap.size w1 W6 → w1.heap.size ≤ d → K1 { tmps := #[.agg #[.pointer (some ⟨b, 0, none⟩), .int .i64 pl, .int .i64 k], .pointer (some ⟨wb, 0, none⟩), .pointer (some ⟨b6, 0, none⟩), .pointer (some ⟨w.heap.size, 0, none⟩), .pointer (some ⟨w.heap.size + 1, 0, none⟩), .pointer (some ⟨d, 0, none⟩), .int .i64 (pl0 - pl), .agg #[.pointer (some ⟨b, 0, none⟩), .int .i64 pl, .int .i64 k], .pointer (some ⟨b, 3 + k * 2, none⟩), .pointer (some ⟨b, 3 + k * 2, none⟩), .agg #[.pointer o, .int .i64 ps], .pointer (some ⟨wb, 0, none⟩), .pointer (some ⟨wb, 1, none⟩), .int .i64 pl0, .pointer (some ⟨w.heap.size, 1, none⟩), .int .i64 pl, .int .i64 (pl0 - pl), undef, undef, undef, undef, undef, undef, undef, undef, undef, undef, undef, undef, undef, undef, undef, undef], defers := [] } W6 := by
    rintro d W6 ⟨s1, s2, s3, s4, s5, s6, s7, s8⟩ kd hb6 hd
    refine HK1.out _ _ ?_
    obtain ⟨d0, d1, _, _⟩ := facts2 kd
    have hbw := HB.out.trans (hb6.mono HB.out.size)
    have k6 := H6.out.later hbw
    have e6 := (facts1 k6).1
    have kn := HNB.out.later hbw
    have n0 := kn.cell (3 + k * 2)
    have n1 := kn.cell (3 + k * 2 + 1)
    rw [Array.getElem?_eq_getElem (by omega)] at n0 n1
    have n2 := kn.free (3 + k * 2)
    have n3 := kn.free (3 + k * 2 + 1)
    have kR := Lib.hid (HR.out.later hb6)
    have r0 := (facts2 kR.out).1
    have r1 := (facts2 kR.out).2.1
    have r2 := (facts2 kR.out).2.2.1
    have r3 := (facts2 kR.out).2.2.2
    have hnd : nb < w.heap.size := HNB.out.lt
    have h6d : b6 < w.heap.size := H6.out.lt
    have hws := HB.out.size
    have HBW := Lib.hid hbw
    have HKN := Lib.hid (kn.set (3 + k * 2) (.pointer o) |>.set (3 + k * 2 + 1) (.int .i64 (ps - (pl0 - pl))))
    have HF7 := Lib.hid (far_set2 (S := fun q => q = nb) (Far.of_below hbw) nb (3 + k * 2) (3 + k * 2 + 1) (.pointer o) (.int .i64 (ps - (pl0 - pl))) (.inl rfl))
    have HR7 := Lib.hid (((kR.out.setOther (3 + k * 2) (.pointer o) (Nat.ne_of_gt (Nat.lt_of_lt_of_le hnd (Nat.le_succ _)))).setOther (3 + k * 2 + 1) (.int .i64 (ps - (pl0 - pl))) (Nat.ne_of_gt (Nat.lt_of_lt_of_le hnd (Nat.le_succ _)))))
    have hsz7 : ((W6.setCell ⟨nb, 3 + k * 2, none⟩ (.pointer o)).setCell ⟨nb, 3 + k * 2 + 1, none⟩ (.int .i64 (ps - (pl0 - pl)))).heap.size = W6.heap.size := by simp [World.setCell]
    clear hbw kn k6 kd hb6
    go_wp2_with fail
    go_region
    generalize (W6.setCell ⟨nb, 3 + k * 2, none⟩ (.pointer o)).setCell ⟨nb, 3 + k * 2 + 1, none⟩ (.int .i64 (ps - (pl0 - pl))) = W7 at *
    have hs7 : W7.drew.heap.size = W6.heap.size := hsz7
    have KN7 := Lib.hid (HKN.out.drew)
    have F7 := Lib.hid (HF7.out.then_below (drewB _ 1))
    have R7 := Lib.hid (HR7.out.drew)
    obtain ⟨t0, t1, t2, t3⟩ := facts2 R7.out
    have F7' : Far (fun q => q = nb) w W7.drew := F7.out
    have F8 := Lib.hid F7'
    have e8 := (facts1 (F7'.blk H6.out (fun e => absurd ((e ▸ H6.out : Blk w nb 56 _).ty HNB.out) (by decide)))).1
    clear F7' F7 HF7 HKN HR7 r0 r1 r2 r3 n0 n1 n2 n3 d0 d1 s1 s2 s3 s4 s5 s6 s7 s8 e6
    generalize W7.drew = W8 at *
    go_wp2_with fail
    have k9 := (R7.out.set 0 (.pointer (some ⟨nb, 0, none⟩))).set 1 (.int .i64 (pl0 - pl))
    refine bodyPost_ret (results_cell Try.results51 (b := ⟨w.heap.size + 1, 0, none⟩) rfl (loadVar58 k9)) rfl ?_
    exact ⟨rfl, far_set2 F8.out _ _ _ _ _ (.inr (Nat.le_succ _)), (KN7.out.setOther _ _ (by omega)).setOther _ _ (by omega)⟩
  go_region_held (fun w' => w'.cell? ⟨b, 3 + k * 2, none⟩ = some (.pointer o) ∧ w'.cell? ⟨b, 3 + k * 2 + 1, none⟩ = some (.int .i64 ps) ∧ w'.cell? ⟨w.heap.size, 0, none⟩ = some (.pointer (some ⟨b, 0, none⟩)) ∧ w'.cell? ⟨w.heap.size, 1, none⟩ = some (.int .i64 pl) ∧ w'.cell? ⟨w.heap.size, 2, none⟩ = some (.int .i64 k) ∧
    w'.cell? ⟨wb, 1, none⟩ = some (.int .i64 pl0) ∧ Below w.heap.size w w' ∧ w.heap.size ≤ w'.heap.size)
    (first
      | exact HS1D
      | exact S5
      | exact SpS.later S5 ((Below.refl _ _).alloc (Nat.le_refl _) _)
      | exact SpS.later HS1D ((Below.refl _ _).alloc (Nat.le_refl _) _)
      | (refine SpS.set2 S5 _ _ ?_ ?_ ?_ ?_ <;> omega))
    (first
      | (go_at_call 36; refine (HLK _).out.mono ?_; rintro e w5 ⟨rfl, hb5⟩; first
          | have S5 := SpS.later HS1D hb5
          | (have S5 := SpS.later (SpS.later HS1D ((Below.refl _ _).alloc (Nat.le_refl _) _)) hb5; obtain ⟨z0, z1, z2, z3⟩ := newbox hb5)))
  · exact hfin _ _ (SpS.later S5 ((Below.refl _ _).alloc (Nat.le_refl _) _)) (Blk.new _ _ _) (((drewB _ 1).trans hb5).trans ((Below.refl _ _).alloc (((drewB _ 1).trans hb5).size) _)) (((drewB _ 1).trans hb5).size)
  · have kd := (Blk.new w1.drew 58 #[.pointer none, .int .i64 0]).later hb5
    have hb6 : Below w1.heap.size w1 w5 := (((drewB _ 1).alloc (Nat.le_refl _) _).trans (hb5.mono (by simp)))
    refine hfin w1.heap.size _ (SpS.set2 S5 _ _ (Nat.ne_of_lt hlt1) (Nat.ne_of_lt hlt3) (Nat.ne_of_lt hlt2) (Nat.le_of_lt hlt3)) ((kd.set 0 _).set 1 _) ?_ (Nat.le_refl _)
    exact below_set2 hb6 _ _ _ _ _ (Nat.le_refl _)
end Go.Proofs.Ytidiaomeahoapaa
