/- down: the way to where a search comes. -/
import Derived.Test.YtidiaomeahoapaaWay
namespace Go.Proofs.Ytidiaomeahoapaa
open Go.RowKit Go.Shelf
attribute [local go_sem] Oper.semAt_some

theorem keeps_below {B : Nat} {A C : World} (h : Below A.heap.size A C) : KeepsFrom B A C := ⟨h.size, fun k _ _ ho _ => (h.block k (Array.getElem?_eq_some_iff.1 ho).1).trans ho⟩
theorem keeps_set {B : Nat} {W : World} {b t : Nat} {c : Array Value} (h : Blk W b t c) (o : Nat) (v : Value) : KeepsFrom B W (W.setCell (Addr.mk b o none) v) :=
  ⟨by simp [World.setCell], fun k x _ hx hc => (Below.heap_setCell _ _ _ _ (fun e => by subst e; rw [show W.heap[k]? = _ from h] at hx; cases hx; cases hc)).trans hx⟩
theorem keeps_trans {B : Nat} {A C D : World} (h : KeepsFrom B A C) (g : KeepsFrom B C D) : KeepsFrom B A D := ⟨Nat.le_trans h.size g.size, fun k o hk ho hc => g.same k o hk (h.same k o hk ho hc) hc⟩
theorem own_far {β : Type} {B : Nat} {S : Nat → Prop} {w0 : World} (hB : w0.heap.size ≤ B) : OwnFrom B (fun (_ : β) W => Far S w0 W) := fun _ X Y row hs hg hr =>
  ⟨hg.os.trans hs.os, hg.tape.trans hs.tape, hg.output.trans hs.output, Nat.le_trans hs.size hg.size, fun k hk hn => (hg.block k (Nat.lt_of_lt_of_le hk hs.size) (fun e => by have := (hr k e.symm).1; omega)).trans (hs.block k hk hn)⟩
theorem Far.aside {S : Nat → Prop} {N : Nat} {w0 A B : World} (h : Far S w0 A) (g : Aside N A B) (hN : w0.heap.size ≤ N) : Far S w0 B :=
  ⟨g.os.trans h.os, g.tape.trans h.tape, g.output.trans h.output, Nat.le_trans h.size g.size, fun k hk hn => by
    have := h.block k hk hn
    rw [← this]
    have hlt : k < A.heap.size := Nat.lt_of_lt_of_le hk h.size
    rw [Array.getElem?_eq_getElem hlt]
    exact g.block k _ (Array.getElem?_eq_getElem hlt) (.inl (by omega))⟩
theorem Blk.aside {W W' : World} {b t N : Nat} {c : Array Value} (h : Blk W b t c) (g : Aside N W W') (hb : b < N) : Blk W' b t c := g.block _ _ h (.inl hb)
def mark (D : Nat) : Deferred := { target := .collected D, args := #[] }
theorem last_top (F : List Nd) (hl : ∀ (q : Nat) (x : Nd), F[q]? = some x → 0 < x.l ∧ x.l ≤ 32) : ∀ a, last F 32 a = 0 := by
  intro a
  induction a with
  | zero => rfl
  | succ a ih =>
    unfold last
    rw [if_neg, ih]
    unfold lev
    cases h : F[a + 1]? with
    | none => simp
    | some x => have := hl _ x h; simp; omega

theorem wp_load71 {op : Oper} {a : Act} {w : World} {K : Act → World → Prop} {Q : Exit → Act → World → Prop} (x : Operand) (ho : op.op = .load 71 x) (b : Nat) (hx : a.eval x = .pointer (some ⟨b, 0, none⟩)) {A : Array Value} (hb : Blk w b 71 A) (hs : A.size = 96)
    (h : K (a.put op.dst (.agg A)) w) : op.wp Try.prog a w K Q := by
  unfold Oper.wp execOp
  simp only [ho, hx, Sem.run_bind, Sem.run_pure, Result.andThen_ok, load71 hb hs]
  exact h
theorem wp_store71 {op : Oper} {a : Act} {w : World} {K : Act → World → Prop} {Q : Exit → Act → World → Prop} (x y : Operand) (ho : op.op = .store 71 x y) (b : Nat) (hx : a.eval x = .pointer (some ⟨b, 0, none⟩)) {A B : Array Value} (hy : a.eval y = .agg B) (hb : Blk w b 71 A) (hs : A.size = 96) (hs' : B.size = 96) (h1 : B.all (·.oneCell') = true)
    (h : K (a.put op.dst undef) (w.setRow b B)) : op.wp Try.prog a w K Q := by
  unfold Oper.wp execOp
  simp only [ho, hx, hy, Sem.run_bind, Sem.run_pure, Result.andThen_ok, store71 hb hs hs' h1]
  exact h
theorem last_lev (F : List Nd) (hl : ∀ (q : Nat) (x : Nd), F[q]? = some x → 0 < x.l ∧ x.l ≤ 32) (h32 : lev F 0 = 32) (j a : Nat) (hj : j < 32) : last F (j + 1) a ≤ a ∧ j < lev F (last F (j + 1) a) := by
  by_cases h : j + 1 < 32
  · have := last_spec F (j + 1) (by omega) a
    exact ⟨this.1, by omega⟩
  · obtain rfl : j = 31 := by omega
    rw [last_top F hl]
    omega
theorem results_cell {P : Program} {fn : Func} {i : Nat} {t : TypeId} (h : fn.results = #[.cell i t]) {tmps : Array Value} {b : Addr} {v : Value} {W : World} (h2 : tmps.getD i undef = .pointer (some b)) (h3 : (loadVar t b).run P W = .ok v W) : (results fn tmps).run P W = .ok v W := by
  unfold results
  rw [h]
  simp only [List.mapM_toArray, List.mapM_cons, List.mapM_nil, h2]
  simp [asAddr, h3]
theorem Blk.setOther3 {W : World} {b b' t : Nat} {c : Array Value} (h : Blk W b t c) (hne : b ≠ b') (o1 o2 o3 : Nat) (v1 v2 v3 : Value) : Blk (((W.setCell ⟨b', o1, none⟩ v1).setCell ⟨b', o2, none⟩ v2).setCell ⟨b', o3, none⟩ v3) b t c :=
  ((h.setOther o1 v1 hne).setOther o2 v2 hne).setOther o3 v3 hne
theorem Far.set3 (b : Nat) (V : World) (o1 o2 o3 : Nat) (v1 v2 v3 : Value) : Far (fun k => k = b) V (((V.setCell ⟨b, o1, none⟩ v1).setCell ⟨b, o2, none⟩ v2).setCell ⟨b, o3, none⟩ v3) :=
  Far.set (S := fun k => k = b) (Far.set (S := fun k => k = b) (Far.set (S := fun k => k = b) (Far.refl _ V) ⟨b, o1, none⟩ v1 (.inl rfl)) ⟨b, o2, none⟩ v2 (.inl rfl)) ⟨b, o3, none⟩ v3 (.inl rfl)
def levelAt (W : World) (c : Nat) : Int := match W.cell? ⟨c, 2, none⟩ with | some v => intOf v | none => 0
/-- What holds ahead of each round of the levels. -/
structure LoopS (w : World) (F : List Nd) (a K : Nat) (caps zw : Array Value) (b0 bA k : Nat) (A : Array Value) (ds : List Nat) (W : World) : Prop where
  kA : Blk W bA 69 (boxQ F k (last F k a))
  kW : Blk W (b0 + 1 + 1) 71 A
  size : A.size = 96
  at' : ∀ j i, k ≤ j → j < 32 → i < 3 → A[j * 3 + i]? = (boxQ F j (last F j a))[i]?
  k0 : Blk W b0 83 #[.func (.func K) #[] caps]
  kR : Blk W (b0 + 1) 71 zw
  below : Below b0 w W
  nodup : ds.Nodup
  marks : ∀ D ∈ ds, W.heap[D]? = some (.deferred (some [])) ∧ b0 ≤ D

theorem LoopS.next {w : World} {F : List Nd} {a K : Nat} {caps zw : Array Value} {b0 bA j : Nat} {A : Array Value} {ds : List Nat} {W Wr V : World} (h : LoopS w F a K caps zw b0 bA (j + 1) A ds W) (n0 : b0 ≠ bA ∧ b0 + 1 ≠ bA ∧ b0 + 2 ≠ bA) (n1 : b0 ≤ bA)
    (hWr : Far (fun b => b = bA) W Wr) (hV : Far (fun b => b = bA) Wr V) (hb : b0 = w.heap.size) {D : Nat} (hD : Wr.heap.size ≤ D) (hVD : V.heap[D]? = some (.deferred (some []))) (kV : Blk V bA 69 (boxQ F j (last F j a))) (v : Value) (hv : adr F (last F j a) = v) :
    LoopS w F a K caps zw b0 bA j (((A.setIfInBounds (j * 3) v).setIfInBounds (j * 3 + 1) (.int .i64 ((last F j a : Int) - 1))).setIfInBounds (j * 3 + 2) (.int .i64 j)) (D :: ds)
      (((V.setCell ⟨b0 + 1 + 1, j * 3, none⟩ v).setCell ⟨b0 + 1 + 1, j * 3 + 1, none⟩ (.int .i64 ((last F j a : Int) - 1))).setCell ⟨b0 + 1 + 1, j * 3 + 2, none⟩ (.int .i64 j)) := by
  have f2 : Far (fun b => b = bA) W V := hWr.trans hV (fun k e => .inl e)
  have kWV := f2.blk h.kW (by omega)
  have f3 := Far.set3 (b0 + 1 + 1) V (j * 3) (j * 3 + 1) (j * 3 + 2) v (.int .i64 ((last F j a : Int) - 1)) (.int .i64 j)
  have hs := h.size
  refine ⟨Blk.setOther3 kV (by omega) _ _ _ _ _ _, ((kWV.set (j * 3) _).set (j * 3 + 1) _).set (j * 3 + 2) _, by simpa using h.size, ?_, Blk.setOther3 (f2.blk h.k0 (by omega)) (by omega) _ _ _ _ _ _, Blk.setOther3 (f2.blk h.kR (by omega)) (by omega) _ _ _ _ _ _, ?_, ?_, ?_⟩
  · intro j' i h1 h2 h3
    simp only [Array.getElem?_setIfInBounds, Array.size_setIfInBounds]
    by_cases e : j' = j
    · subst e
      unfold boxQ
      rw [hv]
      have h4 : i = 0 ∨ i = 1 ∨ i = 2 := by omega
      rcases h4 with rfl | rfl | rfl
      · rw [if_neg (by omega), if_neg (by omega), if_pos (by omega), if_pos (by omega)]; rfl
      · rw [if_neg (by omega), if_pos (by omega), if_pos (by omega)]; rfl
      · rw [if_pos (by omega), if_pos (by omega)]; rfl
    · rw [if_neg (by omega), if_neg (by omega), if_neg (by omega)]
      exact h.at' j' i (by omega) h2 h3
  · have z1 := h.below.size
    have z2 := f2.size
    exact ⟨f3.os.trans (f2.os.trans h.below.os), f3.tape.trans (f2.tape.trans h.below.tape), f3.output.trans (f2.output.trans h.below.output), by have := f3.size; omega, fun q hq =>
      (f3.block q (by omega) (by omega)).trans ((f2.block q (by omega) (by omega)).trans (h.below.block q hq))⟩
  · refine List.nodup_cons.2 ⟨fun e => ?_, h.nodup⟩
    have := (Array.getElem?_eq_some_iff.1 (h.marks _ e).1).1
    have := hWr.size
    omega
  · intro D' hD'
    have key : ∀ o, V.heap[D']? = some (.deferred o) → (((V.setCell ⟨b0 + 1 + 1, j * 3, none⟩ v).setCell ⟨b0 + 1 + 1, j * 3 + 1, none⟩ (.int .i64 ((last F j a : Int) - 1))).setCell ⟨b0 + 1 + 1, j * 3 + 2, none⟩ (.int .i64 j)).heap[D']? = some (.deferred o) := by
      intro o ho
      have hne : D' ≠ b0 + 1 + 1 := fun e => by
        subst e
        have := (show V.heap[b0 + 1 + 1]? = _ from kWV).symm.trans ho
        cases this
      rw [Below.heap_setCell _ _ _ _ hne, Below.heap_setCell _ _ _ _ hne, Below.heap_setCell _ _ _ _ hne]
      exact ho
    have z1 := h.below.size
    have z2 := hWr.size
    rcases List.mem_cons.1 hD' with rfl | hD'
    · exact ⟨key _ hVD, by omega⟩
    · obtain ⟨y1, y2⟩ := h.marks _ hD'
      refine ⟨key _ ?_, y2⟩
      have y3 := (Array.getElem?_eq_some_iff.1 y1).1
      have hne : D' ≠ bA := fun e => by
        subst e
        have := (show W.heap[D']? = _ from h.kA).symm.trans y1
        cases this
      exact (f2.block _ y3 hne).trans y1
theorem LoopS.lev {w : World} {F : List Nd} {a K : Nat} {caps zw : Array Value} {b0 bA k : Nat} {A : Array Value} {ds : List Nat} {W : World} (h : LoopS w F a K caps zw b0 bA k A ds W) : levelAt W bA = (k : Int) := by unfold levelAt; rw [h.kA.cell 2]; rfl

/-- What a search asks: are the nodes up to the place a ahead, and no others? -/
structure Asks (w : World) (F : List Nd) (a : Nat) (K : Nat) (caps : Array Value) : Prop where
  enter : ∀ args w, (callFunc K args).run Try.prog w = .ok (.enter K args) w
  call : ∀ k q W, k < 32 → 0 < q → q < F.length → Below w.heap.size w W → Calls Try.prog K (#[stp F k q] ++ caps) W fun e w' => e = .returned (.bool (decide (q ≤ a))) ∧ Below W.heap.size W w'

set_option maxRecDepth 100000 in
set_option maxHeartbeats 4000000 in
theorem down_any (p : Nat) (L : List Nd) (F : List Nd) (hF : F = hd p :: L) (ah : Nat → Value) (n : Int) (w : World) (hw : Sk w F (lk0 F) ah n) (hN : F.length ≤ 1000000) (a : Nat) (ha : a < F.length) (K : Nat) (caps : Array Value) (hA : Asks w F a K caps) :
    Calls Try.prog 46 #[.pointer (some ⟨p, 0, none⟩), .func (.func K) #[] caps] w fun e w' => e = .returned (.agg (wayA F a)) ∧ Below w.heap.size w w' := by
  refine (callsIn_wide (n := 6)).1 (callsIn_of_wp_marks Try.func46 rfl trivial ?_ rfl)
  refine wpIn_wide.2 ?_
  simp only [Try.ntmps46, List.size_toArray, List.length_cons, List.length_nil, Nat.reduceAdd, Nat.reduceSub, Array.replicate_succ, Array.replicate_zero, List.push_toArray, List.append_toArray, List.nil_append, List.cons_append]
  have hz := zero71
  have h32 : lev F 0 = 32 := by rw [hF]; rfl
  have had : adr F 0 = .pointer (some ⟨p, 0, none⟩) := by rw [hF]; rfl
  clear hF
  have HST := fun w => Lib.hid (start_any p 32 w)
  generalize hzw : zW = zw at *
  go_wp2_with fail
  refine (HST _).out.mono ?_
  rintro e w1 ⟨rfl, hb1⟩
  have k83 := ((Blk.new w 83 #[.func (.func K) #[] caps]).alloc (Obj.cells zw 71)).alloc (Obj.cells zw 71)
  have kR := (Blk.new (w.alloc (Obj.cells #[.func (.func K) #[] caps] 83)) 71 zw).alloc (Obj.cells zw 71)
  have kW := Blk.new ((w.alloc (Obj.cells #[.func (.func K) #[] caps] 83)).alloc (Obj.cells zw 71)) 71 zw
  have hbw : Below w.heap.size w w1 := ((((Below.refl _ _).alloc (Nat.le_refl _) _).alloc (by simp) _).alloc (by simp; omega) _).trans (hb1.mono (by simp; omega))
  have q83 := k83.later hb1
  have qR := kR.later hb1
  have qW := kW.later hb1
  simp only [World.size_alloc] at qR qW
  have HB := Lib.hid hbw
  have H83 := Lib.hid q83
  have HR := Lib.hid qR
  have HW := Lib.hid qW
  clear hb1 k83 kR kW hbw q83 qR qW
  go_wp2_with fail
  rename_i K1 hK1
  have HK1 := Lib.hid hK1
  clear hK1
  have kA := Blk.new w1 69 #[.pointer (some ⟨p, 0, none⟩), .int .i64 (-1), .int .i64 32]
  have hb2 : Below w1.heap.size w1 (w1.alloc (.cells #[.pointer (some ⟨p, 0, none⟩), .int .i64 (-1), .int .i64 32] 69)) := (Below.refl _ _).alloc (Nat.le_refl _) _
  have k0 := H83.out.later hb2
  have kR := HR.out.later hb2
  have kW := HW.out.later hb2
  have hB2 := HB.out.trans (hb2.mono HB.out.size)
  have hz1 := HB.out.size
  generalize hw2 : w1.alloc (.cells #[.pointer (some ⟨p, 0, none⟩), .int .i64 (-1), .int .i64 32] 69) = w2 at *
  generalize hbA : w1.heap.size = bA at *
  have n0 : w.heap.size ≠ bA ∧ w.heap.size + 1 ≠ bA ∧ w.heap.size + 2 ≠ bA := by
    have h1 := HW.out.lt
    omega
  generalize hb0 : w.heap.size = b0 at *
  have H83 := Lib.hid k0
  have HR := Lib.hid kR
  have HW := Lib.hid kW
  have HAt := Lib.hid kA
  have HB2 := Lib.hid hB2
  clear hw2 HB HST k0 kR kW kA hb2 hB2
  refine wp_loop (fun ac W => ∃ (k : Nat) (A : Array Value) (ds : List Nat) (u2 u7 u8 u9 u10 u11 u12 u13 u14 u15 u16 u17 u18 u19 u20 u21 u22 u23 u24 u25 u26 u27 u28 u29 : Value), ac = { tmps := #[.pointer (some ⟨p, 0, none⟩), .func (.func K) #[] caps, u2, .pointer (some ⟨b0, 0, none⟩), .pointer (some ⟨(b0 + 1), 0, none⟩), .pointer (some ⟨(b0 + 1 + 1), 0, none⟩), .pointer (some ⟨bA, 0, none⟩), u7, u8, u9, u10, u11, u12, u13, u14, u15, u16, u17, u18, u19, u20, u21, u22, u23, u24, u25, u26, u27, u28, u29], defers := ds.map mark } ∧ k ≤ 32 ∧ LoopS w F a K caps zw b0 bA k A ds W)
    (fun _ W => (levelAt W bA).toNat) ?start ?round
  case start =>
    refine ⟨32, zw, [], undef, undef, .pointer (some ⟨p, 0, none⟩), _, undef, undef, undef, undef, undef, undef, undef, undef, undef, undef, undef, undef, undef, undef, undef, undef, undef, undef, undef, undef, rfl, Nat.le_refl _, ?_, HW.out, ?_, fun j i h1 h2 => absurd h2 (by omega), H83.out, HR.out, HB2.out, List.nodup_nil, fun D h => by simp at h⟩
    · rw [last_top F hw.lev]
      unfold boxQ
      rw [had]
      exact HAt.out
    · rw [← hzw]; exact zW_size
  case round =>
    rintro ac W ⟨k, A, ds, u2, u7, u8, u9, u10, u11, u12, u13, u14, u15, u16, u17, u18, u19, u20, u21, u22, u23, u24, u25, u26, u27, u28, u29, rfl, hk, hLS⟩
    have HLS := Lib.hid hLS
    obtain ⟨kA, kW, hAs, hAt, k0, kR, hB, hnd, hds⟩ := hLS
    have hlv : levelAt W bA = (k : Int) := by unfold levelAt; rw [kA.cell 2]; rfl
    obtain ⟨f0, f1, f2, f3, f4, f5⟩ := facts3 kA
    by_cases hk0 : k = 0
    · subst hk0
      have hAw : A = wayA F a := wayA_of hAs (fun j i h1 h2 => hAt j i (by omega) h1 h2)
      have KW := Lib.hid kW
      have KR0 := Lib.hid kR
      have KR := Lib.hid (kR.setRow A)
      clear kA kW kR k0 hAt
      go_wp2_with fail
      refine HK1.out _ _ ?_
      refine wp_seq (wp_region_lit ?_)
      refine wpList_plain rfl fun K2 hK2 => wp_load71 _ rfl _ rfl KW.out hAs ?_
      refine hK2 _ _ (wpList_plain rfl fun K3 hK3 => wp_store71 _ _ rfl _ rfl rfl KR0.out ?_ hAs ?_ ?_)
      · rw [← hzw]; exact zW_size
      · rw [hAw]; exact way_one F a
      refine hK3 _ _ ?_
      go_wp2_with fail
      refine leavesM (v := .agg A) ds _ hnd (fun D hD => (setRow_other A (fun e => ?_)).trans (hds D hD).1) (fun W' z1 z2 z3 z4 z5 => ?_)
      · have := (hds D hD).1.symm.trans (e ▸ KR0.out)
        cases this
      · have kb : Blk W' (b0 + 1) 71 A := (z5 _ (fun e => by have := (hds _ e).1.symm.trans KR0.out; cases this)).trans KR.out
        refine ⟨?_, by rw [hAw], ?_⟩
        · exact results_cell (Try.results46) (b := ⟨b0 + 1, 0, none⟩) rfl (loadVar71 kb hAs)
        · refine ⟨z2.trans hB.os, z3.trans hB.tape, z4.trans hB.output, by rw [z1, setRow_size]; exact hB.size, fun q hq => ?_⟩
          rw [hb0] at hq
          exact (z5 q (fun e => by have := (hds _ e).2; omega)).trans ((setRow_other A (by omega)).trans (hB.block q hq))
    · obtain ⟨j, rfl⟩ : ∃ j, k = j + 1 := ⟨k - 1, by omega⟩
      have KA := Lib.hid kA
      have KW := Lib.hid kW
      have KR := Lib.hid kR
      have K0 := Lib.hid k0
      have HAT := Lib.hid hAt
      have HND := Lib.hid hnd
      have HDS := Lib.hid hds
      clear kA kW kR k0 hAt hnd hds
      go_wp2_with fail
      refine wp_scope_straight ?_
      go_wp2_with fail
      refine wp_label ?_
      go_wp2_with fail
      rename_i K2 hK2
      have HK2 := Lib.hid hK2
      clear hK2
      obtain ⟨g1, g2⟩ := last_lev F hw.lev h32 j a (by omega)
      have hq0 : last F (j + 1) a < F.length := by omega
      obtain ⟨x0, hx0⟩ : ∃ x0, F[last F (j + 1) a]? = some x0 := ⟨_, List.getElem?_eq_getElem hq0⟩
      have hl0 := lev_some hx0
      have kAr : Blk (W.setCell ⟨bA, 2, none⟩ (.int .i64 j)) bA 69 (boxQ F j (last F (j + 1) a)) := KA.out.set 2 (.int .i64 j)
      have hWr : Far (fun b => b = bA) W (W.setCell ⟨bA, 2, none⟩ (.int .i64 j)) := (Far.refl _ _).set _ _ (.inl rfl)
      have hsz : (W.setCell ⟨bA, 2, none⟩ (.int .i64 j)).heap.size = W.heap.size := by simp [World.setCell]
      generalize W.setCell ⟨bA, 2, none⟩ (.int .i64 j) = Wr at *
      have hBr : Below b0 w Wr := ⟨hWr.os.trans hB.os, hWr.tape.trans hB.tape, hWr.output.trans hB.output, Nat.le_trans hB.size hWr.size, fun q hq => by
        exact (hWr.block q (by have := hB.size; omega) (by omega)).trans (hB.block q hq)⟩
      have hSr : Sk Wr F (lk0 F) ah n := hw.later (by rw [hb0]; exact hBr)
      have hnB : ¬ isB F bA := hSr.not_ty kAr (fun q => (ty_ne q).1)
      have hAr := kAr.lt
      have hseq := forth_any F ah n Wr j (last F (j + 1) a) x0 (by omega) hx0 (by omega) hN [bA] hSr (by simpa using hnB) (by simpa using hAr)
      have fin : ∀ D V, Wr.heap.size ≤ D → Blk V bA 69 (boxQ F j (last F j a)) → Far (fun b => b = bA) Wr V → V.heap[D]? = some (.deferred (some [])) →
          K2 { tmps := #[.pointer (some ⟨p, 0, none⟩), .func (.func K) #[] caps, u2, .pointer (some ⟨b0, 0, none⟩), .pointer (some ⟨b0 + 1, 0, none⟩), .pointer (some ⟨b0 + 1 + 1, 0, none⟩), .pointer (some ⟨bA, 0, none⟩), u7, u8, u9, .pointer (some ⟨bA, 2, none⟩), .int .i64 ((j : Int) + 1), .bool true, .pointer (some ⟨bA, 2, none⟩), .int .i64 ((j : Int) + 1), .int .i64 j, .pointer (some ⟨bA, 2, none⟩), .agg #[adr F (last F (j + 1) a), .int .i64 ((last F (j + 1) a : Int) - 1), .int .i64 j], .func (.func 38) #[.agg #[adr F (last F (j + 1) a), .int .i64 ((last F (j + 1) a : Int) - 1), .int .i64 j]] #[], u19, u20, u21, u22, u23, u24, u25, u26, u27, u28, u29], defers := mark D :: ds.map mark } V := by
        intro D V hD kV hV hVD
        refine HK2.out _ _ ?_
        have hlt : last F j a < F.length := by have := (last_spec F j (by omega) a).1; omega
        obtain ⟨z, hz2⟩ : ∃ z, F[last F j a]? = some z := ⟨_, List.getElem?_eq_getElem hlt⟩
        have haz := adr_some hz2
        have kV0 := Lib.hid kV
        unfold boxQ at kV
        rw [haz] at kV
        obtain ⟨f0, f1, f2, f3, f4, f5⟩ := facts3 kV
        have kWV := hV.blk (hWr.blk KW.out (by omega)) (by omega)
        have c0 := kWV.cell (j * 3)
        have c1 := kWV.cell (j * 3 + 1)
        have c2 := kWV.cell (j * 3 + 2)
        rw [Array.getElem?_eq_getElem (by omega)] at c0 c1 c2
        have d0 := kWV.free (j * 3)
        have d1 := kWV.free (j * 3 + 1)
        have d2 := kWV.free (j * 3 + 2)
        have HV := Lib.hid hV
        have KV := Lib.hid kV
        have KWV := Lib.hid kWV
        clear hV kV kWV hseq
        go_wp2_with fail
        simp only [Exit.noGoto, Exit.inBlock]
        have hnx := HLS.out.next n0 hz1 hWr HV.out hb0.symm hD hVD kV0.out _ haz
        refine ⟨⟨j, _, D :: ds, _, _, _, _, _, _, _, _, _, _, _, _, _, _, _, _, _, _, _, _, _, _, _, _, rfl, by omega, hnx⟩, ?_⟩
        rw [hlv, hnx.lev]
        omega
      refine (wpIn_wide (n := 6)).1 (range_f (gf := 38) (encs := encQ F j) (xs := steps F j (last F (j + 1) a)) (L := [bA]) rfl (enters_of Try.func38 (by kernel_rfl) rfl) hseq (fun _ _ => rfl)
        (fun i V => ∃ q, q ≤ a ∧ j < lev F q ∧ q < F.length ∧ (steps F j (last F (j + 1) a)).drop i = steps F j q ∧ Blk V bA 69 (boxQ F j q) ∧ Far (fun b => b = bA) Wr V)
        (fun c _ V => match c with
          | .exit id => id = 2 ∧ Blk V bA 69 (boxQ F j (last F j a)) ∧ Far (fun b => b = bA) Wr V
          | _ => False)
        ?hI ?hIx ?hIa ?hIxa ?h0 (fun _ x a' V => ∃ c, (c ≠ bA ∧ Wr.heap.size ≤ c ∧ a' = { tmps := #[.pointer (some ⟨p, 0, none⟩), .func (.func K) #[] caps, u2, .pointer (some ⟨b0, 0, none⟩), .pointer (some ⟨b0 + 1, 0, none⟩), .pointer (some ⟨b0 + 1 + 1, 0, none⟩), .pointer (some ⟨bA, 0, none⟩), .pointer (some ⟨c, 0, none⟩), u8, u9, .pointer (some ⟨bA, 2, none⟩), .int .i64 ((j : Int) + 1), .bool true, .pointer (some ⟨bA, 2, none⟩), .int .i64 ((j : Int) + 1), .int .i64 j, .pointer (some ⟨bA, 2, none⟩), .agg #[adr F (last F (j + 1) a), .int .i64 ((last F (j + 1) a : Int) - 1), .int .i64 j], .func (.func 38) #[.agg #[adr F (last F (j + 1) a), .int .i64 ((last F (j + 1) a : Int) - 1), .int .i64 j]] #[], stp F j x, u20, u21, u22, u23, u24, u25, u26, u27, u28, u29], defers := [] }) ∧ Blk V c 69 (boxQ F j x)) ?hAx ?assign ?body ?done ?stop)
      case hI => exact own_ex fun q => (own_pure _ _).and ((own_pure _ _).and ((own_pure _ _).and ((own_pure _ _).and ((own_blk _ _ _ _).and (own_far (Nat.le_refl _))))))
      case hIx =>
        intro c
        cases c with
        | exit id => exact (own_pure _ _).and ((own_blk _ _ _ _).and (own_far (Nat.le_refl _)))
        | _ => exact own_pure _ _
      case hIa =>
        rintro N hN2 i A B ⟨q, h1, h2, h3, h4, h5, h6⟩ hab
        exact ⟨q, h1, h2, h3, h4, h5.aside hab (by omega), h6.aside hab hN2⟩
      case hIxa =>
        rintro c N hN2 i A B h hab
        cases c with
        | exit id => exact ⟨h.1, h.2.1.aside hab (by omega), h.2.2.aside hab hN2⟩
        | _ => exact h
      case h0 => exact ⟨_, g1, g2, hq0, rfl, kAr, Far.refl _ _⟩
      case hAx => exact fun i x a' => own_ex fun c => (own_pure _ _).and (own_blk _ _ _ _)
      case assign =>
        rintro l i x V K' hx' ⟨q, h1, h2, h3, h4, h5, h6⟩ hK
        have hx2 := mem_steps.1 (List.mem_of_getElem? hx')
        obtain ⟨y, hy⟩ : ∃ y, F[x]? = some y := ⟨_, List.getElem?_eq_getElem hx2.2.1⟩
        have hay := adr_some hy
        have HK3 := Lib.hid hK
        have HI := Lib.hid (And.intro h1 (And.intro h2 (And.intro h3 (And.intro h4 (And.intro h5 h6)))))
        have hzV := h6.size
        clear hK h1 h2 h3 h4 h5 h6 fin hseq hx'
        unfold encQ stp
        rw [hay]
        gi_wp2
        have hbV := (Below.refl V.heap.size V).alloc (Nat.le_refl _) (Obj.cells #[Value.pointer (some ⟨y.b, 0, none⟩), Value.int IntKind.i64 ((x : Int) - 1), Value.int IntKind.i64 j] 69)
        obtain ⟨h1, h2, h3, h4, h5, h6⟩ := HI.out
        refine HK3.out _ _ (keeps_below hbV) (KeepC.of_below hbV) ⟨q, h1, h2, h3, h4, h5.later hbV, h6.then_below hbV⟩ ⟨V.heap.size, ⟨?_, hzV, ?_⟩, ?_⟩
        · have := h5.lt; omega
        · unfold stp; rw [hay]
        · unfold boxQ; rw [hay]; exact Blk.new _ _ _
      case body =>
        rintro l i x a' V hx' ⟨q, h1, h2, h3, h4, h5, h6⟩ ⟨c, ⟨hc1, hc2, rfl⟩, kc⟩
        have hx2 := mem_steps.1 (List.mem_of_getElem? hx')
        obtain ⟨y, hy⟩ : ∃ y, F[x]? = some y := ⟨_, List.getElem?_eq_getElem hx2.2.1⟩
        have hay := adr_some hy
        have hxn : x = nxt F j q := by
          have e1 := (nxt_spec F j q h3).2.2.2.2
          have e2 : (steps F j q)[0]? = some x := by
            rw [← h4, List.getElem?_drop]
            simpa using hx'
          rw [e1] at e2
          split at e2
          · simpa using e2.symm
          · simp at e2
        have hdx : (steps F j (last F (j + 1) a)).drop (i + 1) = steps F j x := by
          have e1 := (nxt_spec F j q h3).2.2.2.2
          rw [← hxn] at e1
          rw [if_pos hx2.2.1] at e1
          have := congrArg (List.drop 1) (h4.trans e1)
          simpa using this
        have k0V := h6.blk (hWr.blk K0.out (by omega)) (by omega)
        have hcall := hA.call j x V (by omega) (by omega) hx2.2.1 (by
          rw [hb0]
          have z1 := hBr.size
          exact ⟨h6.os.trans hBr.os, h6.tape.trans hBr.tape, h6.output.trans hBr.output, Nat.le_trans z1 h6.size, fun q hq => (h6.block q (by omega) (by omega)).trans (hBr.block q hq)⟩)
        have henter := hA.enter
        have kcF := kc.free
        unfold boxQ at kc
        rw [hay] at kc
        obtain ⟨f0, f1, f2, f3, f4, f5⟩ := facts3 kc
        obtain ⟨e0, e1⟩ := facts1 k0V
        unfold stp at hcall
        rw [hay] at hcall
        have HC := Lib.hid hcall
        have HXN := Lib.hid hxn
        have HDX := Lib.hid hdx
        clear hxn hdx
        have H5 := Lib.hid h5
        have H6 := Lib.hid h6
        have KC := Lib.hid kc
        clear hcall h5 h6 kc k0V fin hseq kcF hx' hy
        gi_wp2
        refine ⟨trivial, ?_⟩
        refine (CallsIn.inRound l (callsIn_wide.2 HC.out)).mono ?_
        rintro e W5 ⟨rfl, hb5⟩
        have kc5 := KC.out.later hb5
        have kA5 := H5.out.later hb5
        have hF5 := H6.out.then_below hb5
        have KA5 := Lib.hid kA5
        have HF5 := Lib.hid hF5
        have HB5 := Lib.hid hb5
        clear f0 f1 f2 f3 f4 f5 e0 e1
        by_cases hxa : x ≤ a
        · have hda : decide (x ≤ a) = true := by simpa using hxa
          rw [hda]
          obtain ⟨f0, f1, f2, f3, f4, f5⟩ := facts3 kc5
          unfold boxQ at kA5
          obtain ⟨d0, d1, d2, d3, d4, d5⟩ := facts3 kA5
          clear kc5 kA5 hF5 hb5
          gi_wp2
          refine ⟨?_, ?_, x, hxa, hx2.2.2, hx2.2.1, HDX.out, ?_, ?_⟩
          · exact keeps_trans (keeps_below HB5.out) (keeps_trans (keeps_set KA5.out 0 _) (keeps_trans (keeps_set (KA5.out.set 0 _) 1 _) (keeps_set ((KA5.out.set 0 _).set 1 _) 2 _)))
          · exact (KeepC.of_below HB5.out).trans ((KeepC.set _ _ _ _ (by simp)).trans ((KeepC.set _ _ _ _ (by simp)).trans (KeepC.set _ _ _ _ (by simp))))
          · have := ((KA5.out.set 0 (.pointer (some ⟨y.b, 0, none⟩))).set 1 (.int .i64 ((x : Int) - 1))).set 2 (.int .i64 j)
            unfold boxQ
            rw [hay]
            exact this
          · exact HF5.out.trans (Far.set3 bA W5 0 1 2 _ _ _) (fun k e => .inl e)
        · have hda : decide (x ≤ a) = false := by simpa using hxa
          rw [hda]
          gi_wp2
          refine ⟨keeps_below HB5.out, rfl, ?_, HF5.out⟩
          have e1 := nxt_spec F j q h3
          have := HXN.out
          rw [last_unique (by omega) h1 h2 (fun i hi1 hi2 => e1.2.2.1 i hi1 (by omega))]
          exact KA5.out
      case done =>
        rintro D V hD ⟨q, h1, h2, h3, h4, h5, h6⟩ hVD
        refine fin D V hD ?_ h6 hVD
        have e1 := (nxt_spec F j q h3)
        have e2 : steps F j q = [] := by rw [← h4]; simp
        have e3 : ¬ nxt F j q < F.length := fun e => by
          have := e1.2.2.2.2
          rw [if_pos e, e2] at this
          cases this
        rw [last_unique (by omega) h1 h2 (fun i hi1 hi2 => e1.2.2.1 i hi1 (by omega))]
        exact h5
      case stop =>
        rintro D c i V hD h hVD
        cases c with
        | exit id =>
          obtain ⟨rfl, h1, h2⟩ := h
          refine wpIn_wide.2 ?_
          go_wp2_with fail
          exact fin D V hD h1 h2 hVD
        | _ => exact h.elim
end Go.Proofs.Ytidiaomeahoapaa
