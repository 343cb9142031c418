/- Texts of one kind in one: SkDown, SkAsk, SkSeek, SkAt. -/
import Derived.Test.YtpaphfofjfjdlaaGreatQSkA
import Derived.Lib.MinMaxS
import Derived.BigQuiet
/- down: the way to where a search comes. -/
namespace Go.Proofs.YtpaphfofjfjdlaaGreat.Sk
open Go.RowKit Go.Shelf
attribute [local go_sem] Oper.semAt_some

theorem keeps_below {B : Nat} {A C : World} (h : Below A.heap.size A C) : KeepsFrom B A C := ⟨h.size, fun k _ _ ho _ => (h.block k (Array.getElem?_eq_some_iff.1 ho).1).trans ho⟩
theorem keeps_set {B : Nat} {W : World} {b t : Nat} {c : Array Value} (h : Blk W b t c) (o : Nat) (v : Value) : KeepsFrom B W (W.setCell (Addr.mk b o none) v) :=
  ⟨by simp [World.setCell], fun k x _ hx hc => (Below.heap_setCell _ _ _ _ (fun e => by subst e; rw [show W.heap[k]? = _ from h] at hx; cases hx; cases hc)).trans hx⟩
theorem keeps_trans {B : Nat} {A C D : World} (h : KeepsFrom B A C) (g : KeepsFrom B C D) : KeepsFrom B A D := ⟨Nat.le_trans h.size g.size, fun k o hk ho hc => g.same k o hk (h.same k o hk ho hc) hc⟩
theorem own_far {β : Type} {B : Nat} {S : Nat → Prop} {w0 : World} (hB : w0.heap.size ≤ B) : OwnFrom B (fun (_ : β) W => Far S w0 W) := fun _ X Y row hs hg hr =>
  ⟨hg.os.trans hs.os, hg.tape.trans hs.tape, hg.output.trans hs.output, Nat.le_trans hs.size hg.size, fun k hk hn => (hg.block k (Nat.lt_of_lt_of_le hk hs.size) (fun e => by have := (hr k e.symm).1; omega)).trans (hs.block k hk hn)⟩
theorem Far.aside {S : Nat → Prop} {N : Nat} {w0 A B : World} (h : Far S w0 A) (g : Aside N A B) (hN : w0.heap.size ≤ N) : Far S w0 B :=
  ⟨g.os.trans h.os, g.tape.trans h.tape, g.output.trans h.output, Nat.le_trans h.size g.size, fun k hk hn => by
    have := h.block k hk hn
    rw [← this]
    have hlt : k < A.heap.size := Nat.lt_of_lt_of_le hk h.size
    rw [Array.getElem?_eq_getElem hlt]
    exact g.block k _ (Array.getElem?_eq_getElem hlt) (.inl (by omega))⟩
theorem Blk.aside {W W' : World} {b t N : Nat} {c : Array Value} (h : Blk W b t c) (g : Aside N W W') (hb : b < N) : Blk W' b t c := g.block _ _ h (.inl hb)
def mark (D : Nat) : Deferred := { target := .collected D, args := #[] }
theorem last_top (F : List Nd) (hl : ∀ (q : Nat) (x : Nd), F[q]? = some x → 0 < x.l ∧ x.l ≤ 32) : ∀ a, last F 32 a = 0 := by
  intro a
  induction a with
  | zero => rfl
  | succ a ih =>
    unfold last
    rw [if_neg, ih]
    unfold lev
    cases h : F[a + 1]? with
    | none => simp
    | some x => have := hl _ x h; simp; omega

theorem wp_load71 {op : Oper} {a : Act} {w : World} {K : Act → World → Prop} {Q : Exit → Act → World → Prop} (x : Operand) (ho : op.op = .load 150 x) (b : Nat) (hx : a.eval x = .pointer (some ⟨b, 0, none⟩)) {A : Array Value} (hb : Blk w b 150 A) (hs : A.size = 96)
    (h : K (a.put op.dst (.agg A)) w) : op.wp Tryz.prog a w K Q := by
  unfold Oper.wp execOp
  simp only [ho, hx, Sem.run_bind, Sem.run_pure, Result.andThen_ok, load71 hb hs]
  exact h
theorem wp_store71 {op : Oper} {a : Act} {w : World} {K : Act → World → Prop} {Q : Exit → Act → World → Prop} (x y : Operand) (ho : op.op = .store 150 x y) (b : Nat) (hx : a.eval x = .pointer (some ⟨b, 0, none⟩)) {A B : Array Value} (hy : a.eval y = .agg B) (hb : Blk w b 150 A) (hs : A.size = 96) (hs' : B.size = 96) (h1 : B.all (·.oneCell') = true)
    (h : K (a.put op.dst undef) (w.setRow b B)) : op.wp Tryz.prog a w K Q := by
  unfold Oper.wp execOp
  simp only [ho, hx, hy, Sem.run_bind, Sem.run_pure, Result.andThen_ok, store71 hb hs hs' h1]
  exact h
theorem last_lev (F : List Nd) (hl : ∀ (q : Nat) (x : Nd), F[q]? = some x → 0 < x.l ∧ x.l ≤ 32) (h32 : lev F 0 = 32) (j a : Nat) (hj : j < 32) : last F (j + 1) a ≤ a ∧ j < lev F (last F (j + 1) a) := by
  by_cases h : j + 1 < 32
  · have := last_spec F (j + 1) (by omega) a
    exact ⟨this.1, by omega⟩
  · obtain rfl : j = 31 := by omega
    rw [last_top F hl]
    omega
theorem results_cell {P : Program} {fn : Func} {i : Nat} {t : TypeId} (h : fn.results = #[.cell i t]) {tmps : Array Value} {b : Addr} {v : Value} {W : World} (h2 : tmps.getD i undef = .pointer (some b)) (h3 : (loadVar t b).run P W = .ok v W) : (results fn tmps).run P W = .ok v W := by
  unfold results
  rw [h]
  simp only [List.mapM_toArray, List.mapM_cons, List.mapM_nil, h2]
  simp [asAddr, h3]
theorem Blk.setOther3 {W : World} {b b' t : Nat} {c : Array Value} (h : Blk W b t c) (hne : b ≠ b') (o1 o2 o3 : Nat) (v1 v2 v3 : Value) : Blk (((W.setCell ⟨b', o1, none⟩ v1).setCell ⟨b', o2, none⟩ v2).setCell ⟨b', o3, none⟩ v3) b t c :=
  ((h.setOther o1 v1 hne).setOther o2 v2 hne).setOther o3 v3 hne
theorem Far.set3 (b : Nat) (V : World) (o1 o2 o3 : Nat) (v1 v2 v3 : Value) : Far (fun k => k = b) V (((V.setCell ⟨b, o1, none⟩ v1).setCell ⟨b, o2, none⟩ v2).setCell ⟨b, o3, none⟩ v3) :=
  Far.set (S := fun k => k = b) (Far.set (S := fun k => k = b) (Far.set (S := fun k => k = b) (Far.refl _ V) ⟨b, o1, none⟩ v1 (.inl rfl)) ⟨b, o2, none⟩ v2 (.inl rfl)) ⟨b, o3, none⟩ v3 (.inl rfl)
def levelAt (W : World) (c : Nat) : Int := match W.cell? ⟨c, 2, none⟩ with | some v => intOf v | none => 0
/-- What holds ahead of each round of the levels. -/
structure LoopS (w : World) (F : List Nd) (a K : Nat) (caps zw : Array Value) (b0 bA k : Nat) (A : Array Value) (ds : List Nat) (W : World) : Prop where
  kA : Blk W bA 148 (boxQ F k (last F k a))
  kW : Blk W (b0 + 1 + 1) 150 A
  size : A.size = 96
  at' : ∀ j i, k ≤ j → j < 32 → i < 3 → A[j * 3 + i]? = (boxQ F j (last F j a))[i]?
  k0 : Blk W b0 172 #[.func (.func K) #[] caps]
  kR : Blk W (b0 + 1) 150 zw
  below : Below b0 w W
  nodup : ds.Nodup
  marks : ∀ D ∈ ds, W.heap[D]? = some (.deferred (some [])) ∧ b0 ≤ D

theorem LoopS.next {w : World} {F : List Nd} {a K : Nat} {caps zw : Array Value} {b0 bA j : Nat} {A : Array Value} {ds : List Nat} {W Wr V : World} (h : LoopS w F a K caps zw b0 bA (j + 1) A ds W) (n0 : b0 ≠ bA ∧ b0 + 1 ≠ bA ∧ b0 + 2 ≠ bA) (n1 : b0 ≤ bA)
    (hWr : Far (fun b => b = bA) W Wr) (hV : Far (fun b => b = bA) Wr V) (hb : b0 = w.heap.size) {D : Nat} (hD : Wr.heap.size ≤ D) (hVD : V.heap[D]? = some (.deferred (some []))) (kV : Blk V bA 148 (boxQ F j (last F j a))) (v : Value) (hv : adr F (last F j a) = v) :
    LoopS w F a K caps zw b0 bA j (((A.setIfInBounds (j * 3) v).setIfInBounds (j * 3 + 1) (.int .i64 ((last F j a : Int) - 1))).setIfInBounds (j * 3 + 2) (.int .i64 j)) (D :: ds)
      (((V.setCell ⟨b0 + 1 + 1, j * 3, none⟩ v).setCell ⟨b0 + 1 + 1, j * 3 + 1, none⟩ (.int .i64 ((last F j a : Int) - 1))).setCell ⟨b0 + 1 + 1, j * 3 + 2, none⟩ (.int .i64 j)) := by
  have f2 : Far (fun b => b = bA) W V := hWr.trans hV (fun k e => .inl e)
  have kWV := f2.blk h.kW (by omega)
  have f3 := Far.set3 (b0 + 1 + 1) V (j * 3) (j * 3 + 1) (j * 3 + 2) v (.int .i64 ((last F j a : Int) - 1)) (.int .i64 j)
  have hs := h.size
  refine ⟨Blk.setOther3 kV (by omega) _ _ _ _ _ _, ((kWV.set (j * 3) _).set (j * 3 + 1) _).set (j * 3 + 2) _, by simpa using h.size, ?_, Blk.setOther3 (f2.blk h.k0 (by omega)) (by omega) _ _ _ _ _ _, Blk.setOther3 (f2.blk h.kR (by omega)) (by omega) _ _ _ _ _ _, ?_, ?_, ?_⟩
  · intro j' i h1 h2 h3
    simp only [Array.getElem?_setIfInBounds, Array.size_setIfInBounds]
    by_cases e : j' = j
    · subst e
      unfold boxQ
      rw [hv]
      have h4 : i = 0 ∨ i = 1 ∨ i = 2 := by omega
      rcases h4 with rfl | rfl | rfl
      · rw [if_neg (by omega), if_neg (by omega), if_pos (by omega), if_pos (by omega)]; rfl
      · rw [if_neg (by omega), if_pos (by omega), if_pos (by omega)]; rfl
      · rw [if_pos (by omega), if_pos (by omega)]; rfl
    · rw [if_neg (by omega), if_neg (by omega), if_neg (by omega)]
      exact h.at' j' i (by omega) h2 h3
  · have z1 := h.below.size
    have z2 := f2.size
    exact ⟨f3.os.trans (f2.os.trans h.below.os), f3.tape.trans (f2.tape.trans h.below.tape), f3.output.trans (f2.output.trans h.below.output), by have := f3.size; omega, fun q hq =>
      (f3.block q (by omega) (by omega)).trans ((f2.block q (by omega) (by omega)).trans (h.below.block q hq))⟩
  · refine List.nodup_cons.2 ⟨fun e => ?_, h.nodup⟩
    have := (Array.getElem?_eq_some_iff.1 (h.marks _ e).1).1
    have := hWr.size
    omega
  · intro D' hD'
    have key : ∀ o, V.heap[D']? = some (.deferred o) → (((V.setCell ⟨b0 + 1 + 1, j * 3, none⟩ v).setCell ⟨b0 + 1 + 1, j * 3 + 1, none⟩ (.int .i64 ((last F j a : Int) - 1))).setCell ⟨b0 + 1 + 1, j * 3 + 2, none⟩ (.int .i64 j)).heap[D']? = some (.deferred o) := by
      intro o ho
      have hne : D' ≠ b0 + 1 + 1 := fun e => by
        subst e
        have := (show V.heap[b0 + 1 + 1]? = _ from kWV).symm.trans ho
        cases this
      rw [Below.heap_setCell _ _ _ _ hne, Below.heap_setCell _ _ _ _ hne, Below.heap_setCell _ _ _ _ hne]
      exact ho
    have z1 := h.below.size
    have z2 := hWr.size
    rcases List.mem_cons.1 hD' with rfl | hD'
    · exact ⟨key _ hVD, by omega⟩
    · obtain ⟨y1, y2⟩ := h.marks _ hD'
      refine ⟨key _ ?_, y2⟩
      have y3 := (Array.getElem?_eq_some_iff.1 y1).1
      have hne : D' ≠ bA := fun e => by
        subst e
        have := (show W.heap[D']? = _ from h.kA).symm.trans y1
        cases this
      exact (f2.block _ y3 hne).trans y1
theorem LoopS.lev {w : World} {F : List Nd} {a K : Nat} {caps zw : Array Value} {b0 bA k : Nat} {A : Array Value} {ds : List Nat} {W : World} (h : LoopS w F a K caps zw b0 bA k A ds W) : levelAt W bA = (k : Int) := by unfold levelAt; rw [h.kA.cell 2]; rfl

/-- What a search asks: are the nodes up to the place a ahead, and no others? -/
structure Asks (w : World) (F : List Nd) (a : Nat) (K : Nat) (caps : Array Value) : Prop where
  enter : ∀ args w, (callFunc K args).run Tryz.prog w = .ok (.enter K args) w
  call : ∀ k q W, k < 32 → 0 < q → q < F.length → Below w.heap.size w W → Calls Tryz.prog K (#[stp F k q] ++ caps) W fun e w' => e = .returned (.bool (decide (q ≤ a))) ∧ Below W.heap.size W w'

set_option maxRecDepth 100000 in
set_option maxHeartbeats 4000000 in
theorem down_any (p : Nat) (L : List Nd) (F : List Nd) (hF : F = hd p :: L) (ah : Nat → Value) (n : Int) (w : World) (hw : Sk w F (lk0 F) ah n) (hN : F.length ≤ 1000000) (a : Nat) (ha : a < F.length) (K : Nat) (caps : Array Value) (hA : Asks w F a K caps) :
    Calls Tryz.prog 94 #[.pointer (some ⟨p, 0, none⟩), .func (.func K) #[] caps] w fun e w' => e = .returned (.agg (wayA F a)) ∧ Below w.heap.size w w' := by
  refine (callsIn_wide (n := 6)).1 (callsIn_of_wp_marks Tryz.func94 rfl trivial ?_ rfl)
  refine wpIn_wide.2 ?_
  simp only [Tryz.ntmps94, List.size_toArray, List.length_cons, List.length_nil, Nat.reduceAdd, Nat.reduceSub, Array.replicate_succ, Array.replicate_zero, List.push_toArray, List.append_toArray, List.nil_append, List.cons_append]
  have hz := zero71
  have h32 : lev F 0 = 32 := by rw [hF]; rfl
  have had : adr F 0 = .pointer (some ⟨p, 0, none⟩) := by rw [hF]; rfl
  clear hF
  have HST := fun w => Lib.hid (start_any p 32 w)
  generalize hzw : zW = zw at *
  go_wp2_with fail
  refine (HST _).out.mono ?_
  rintro e w1 ⟨rfl, hb1⟩
  have k83 := ((Blk.new w 172 #[.func (.func K) #[] caps]).alloc (Obj.cells zw 150)).alloc (Obj.cells zw 150)
  have kR := (Blk.new (w.alloc (Obj.cells #[.func (.func K) #[] caps] 172)) 150 zw).alloc (Obj.cells zw 150)
  have kW := Blk.new ((w.alloc (Obj.cells #[.func (.func K) #[] caps] 172)).alloc (Obj.cells zw 150)) 150 zw
  have hbw : Below w.heap.size w w1 := ((((Below.refl _ _).alloc (Nat.le_refl _) _).alloc (by simp) _).alloc (by simp; omega) _).trans (hb1.mono (by simp; omega))
  have q83 := k83.later hb1
  have qR := kR.later hb1
  have qW := kW.later hb1
  simp only [World.size_alloc] at qR qW
  have HB := Lib.hid hbw
  have H83 := Lib.hid q83
  have HR := Lib.hid qR
  have HW := Lib.hid qW
  clear hb1 k83 kR kW hbw q83 qR qW
  go_wp2_with fail
  rename_i K1 hK1
  have HK1 := Lib.hid hK1
  clear hK1
  have kA := Blk.new w1 148 #[.pointer (some ⟨p, 0, none⟩), .int .i64 (-1), .int .i64 32]
  have hb2 : Below w1.heap.size w1 (w1.alloc (.cells #[.pointer (some ⟨p, 0, none⟩), .int .i64 (-1), .int .i64 32] 148)) := (Below.refl _ _).alloc (Nat.le_refl _) _
  have k0 := H83.out.later hb2
  have kR := HR.out.later hb2
  have kW := HW.out.later hb2
  have hB2 := HB.out.trans (hb2.mono HB.out.size)
  have hz1 := HB.out.size
  generalize hw2 : w1.alloc (.cells #[.pointer (some ⟨p, 0, none⟩), .int .i64 (-1), .int .i64 32] 148) = w2 at *
  generalize hbA : w1.heap.size = bA at *
  have n0 : w.heap.size ≠ bA ∧ w.heap.size + 1 ≠ bA ∧ w.heap.size + 2 ≠ bA := by
    have h1 := HW.out.lt
    omega
  generalize hb0 : w.heap.size = b0 at *
  have H83 := Lib.hid k0
  have HR := Lib.hid kR
  have HW := Lib.hid kW
  have HAt := Lib.hid kA
  have HB2 := Lib.hid hB2
  clear hw2 HB HST k0 kR kW kA hb2 hB2
  refine wp_loop (fun ac W => ∃ (k : Nat) (A : Array Value) (ds : List Nat) (u2 u7 u8 u9 u10 u11 u12 u13 u14 u15 u16 u17 u18 u19 u20 u21 u22 u23 u24 u25 u26 u27 u28 u29 : Value), ac = { tmps := #[.pointer (some ⟨p, 0, none⟩), .func (.func K) #[] caps, u2, .pointer (some ⟨b0, 0, none⟩), .pointer (some ⟨(b0 + 1), 0, none⟩), .pointer (some ⟨(b0 + 1 + 1), 0, none⟩), .pointer (some ⟨bA, 0, none⟩), u7, u8, u9, u10, u11, u12, u13, u14, u15, u16, u17, u18, u19, u20, u21, u22, u23, u24, u25, u26, u27, u28, u29], defers := ds.map mark } ∧ k ≤ 32 ∧ LoopS w F a K caps zw b0 bA k A ds W)
    (fun _ W => (levelAt W bA).toNat) ?start ?round
  case start =>
    refine ⟨32, zw, [], undef, undef, .pointer (some ⟨p, 0, none⟩), _, undef, undef, undef, undef, undef, undef, undef, undef, undef, undef, undef, undef, undef, undef, undef, undef, undef, undef, undef, undef, rfl, Nat.le_refl _, ?_, HW.out, ?_, fun j i h1 h2 => absurd h2 (by omega), H83.out, HR.out, HB2.out, List.nodup_nil, fun D h => by simp at h⟩
    · rw [last_top F hw.lev]
      unfold boxQ
      rw [had]
      exact HAt.out
    · rw [← hzw]; exact zW_size
  case round =>
    rintro ac W ⟨k, A, ds, u2, u7, u8, u9, u10, u11, u12, u13, u14, u15, u16, u17, u18, u19, u20, u21, u22, u23, u24, u25, u26, u27, u28, u29, rfl, hk, hLS⟩
    have HLS := Lib.hid hLS
    obtain ⟨kA, kW, hAs, hAt, k0, kR, hB, hnd, hds⟩ := hLS
    have hlv : levelAt W bA = (k : Int) := by unfold levelAt; rw [kA.cell 2]; rfl
    obtain ⟨f0, f1, f2, f3, f4, f5⟩ := facts3 kA
    by_cases hk0 : k = 0
    · subst hk0
      have hAw : A = wayA F a := wayA_of hAs (fun j i h1 h2 => hAt j i (by omega) h1 h2)
      have KW := Lib.hid kW
      have KR0 := Lib.hid kR
      have KR := Lib.hid (kR.setRow A)
      clear kA kW kR k0 hAt
      go_wp2_with fail
      refine HK1.out _ _ ?_
      refine wp_seq (wp_region_lit ?_)
      refine wpList_plain rfl fun K2 hK2 => wp_load71 _ rfl _ rfl KW.out hAs ?_
      refine hK2 _ _ (wpList_plain rfl fun K3 hK3 => wp_store71 _ _ rfl _ rfl rfl KR0.out ?_ hAs ?_ ?_)
      · rw [← hzw]; exact zW_size
      · rw [hAw]; exact way_one F a
      refine hK3 _ _ ?_
      go_wp2_with fail
      refine leavesM (v := .agg A) ds _ hnd (fun D hD => (setRow_other A (fun e => ?_)).trans (hds D hD).1) (fun W' z1 z2 z3 z4 z5 => ?_)
      · have := (hds D hD).1.symm.trans (e ▸ KR0.out)
        cases this
      · have kb : Blk W' (b0 + 1) 150 A := (z5 _ (fun e => by have := (hds _ e).1.symm.trans KR0.out; cases this)).trans KR.out
        refine ⟨?_, by rw [hAw], ?_⟩
        · exact results_cell (Tryz.results94) (b := ⟨b0 + 1, 0, none⟩) rfl (loadVar71 kb hAs)
        · refine ⟨z2.trans hB.os, z3.trans hB.tape, z4.trans hB.output, by rw [z1, setRow_size]; exact hB.size, fun q hq => ?_⟩
          rw [hb0] at hq
          exact (z5 q (fun e => by have := (hds _ e).2; omega)).trans ((setRow_other A (by omega)).trans (hB.block q hq))
    · obtain ⟨j, rfl⟩ : ∃ j, k = j + 1 := ⟨k - 1, by omega⟩
      have KA := Lib.hid kA
      have KW := Lib.hid kW
      have KR := Lib.hid kR
      have K0 := Lib.hid k0
      have HAT := Lib.hid hAt
      have HND := Lib.hid hnd
      have HDS := Lib.hid hds
      clear kA kW kR k0 hAt hnd hds
      go_wp2_with fail
      refine wp_scope_straight ?_
      go_wp2_with fail
      refine wp_label ?_
      go_wp2_with fail
      rename_i K2 hK2
      have HK2 := Lib.hid hK2
      clear hK2
      obtain ⟨g1, g2⟩ := last_lev F hw.lev h32 j a (by omega)
      have hq0 : last F (j + 1) a < F.length := by omega
      obtain ⟨x0, hx0⟩ : ∃ x0, F[last F (j + 1) a]? = some x0 := ⟨_, List.getElem?_eq_getElem hq0⟩
      have hl0 := lev_some hx0
      have kAr : Blk (W.setCell ⟨bA, 2, none⟩ (.int .i64 j)) bA 148 (boxQ F j (last F (j + 1) a)) := KA.out.set 2 (.int .i64 j)
      have hWr : Far (fun b => b = bA) W (W.setCell ⟨bA, 2, none⟩ (.int .i64 j)) := (Far.refl _ _).set _ _ (.inl rfl)
      have hsz : (W.setCell ⟨bA, 2, none⟩ (.int .i64 j)).heap.size = W.heap.size := by simp [World.setCell]
      generalize W.setCell ⟨bA, 2, none⟩ (.int .i64 j) = Wr at *
      have hBr : Below b0 w Wr := ⟨hWr.os.trans hB.os, hWr.tape.trans hB.tape, hWr.output.trans hB.output, Nat.le_trans hB.size hWr.size, fun q hq => by
        exact (hWr.block q (by have := hB.size; omega) (by omega)).trans (hB.block q hq)⟩
      have hSr : Sk Wr F (lk0 F) ah n := hw.later (by rw [hb0]; exact hBr)
      have hnB : ¬ isB F bA := hSr.not_ty kAr (fun q => (ty_ne q).1)
      have hAr := kAr.lt
      have hseq := forth_any F ah n Wr j (last F (j + 1) a) x0 (by omega) hx0 (by omega) hN [bA] hSr (by simpa using hnB) (by simpa using hAr)
      have fin : ∀ D V, Wr.heap.size ≤ D → Blk V bA 148 (boxQ F j (last F j a)) → Far (fun b => b = bA) Wr V → V.heap[D]? = some (.deferred (some [])) →
          K2 { tmps := #[.pointer (some ⟨p, 0, none⟩), .func (.func K) #[] caps, u2, .pointer (some ⟨b0, 0, none⟩), .pointer (some ⟨b0 + 1, 0, none⟩), .pointer (some ⟨b0 + 1 + 1, 0, none⟩), .pointer (some ⟨bA, 0, none⟩), u7, u8, u9, .pointer (some ⟨bA, 2, none⟩), .int .i64 ((j : Int) + 1), .bool true, .pointer (some ⟨bA, 2, none⟩), .int .i64 ((j : Int) + 1), .int .i64 j, .pointer (some ⟨bA, 2, none⟩), .agg #[adr F (last F (j + 1) a), .int .i64 ((last F (j + 1) a : Int) - 1), .int .i64 j], .func (.func 112) #[.agg #[adr F (last F (j + 1) a), .int .i64 ((last F (j + 1) a : Int) - 1), .int .i64 j]] #[], u19, u20, u21, u22, u23, u24, u25, u26, u27, u28, u29], defers := mark D :: ds.map mark } V := by
        intro D V hD kV hV hVD
        refine HK2.out _ _ ?_
        have hlt : last F j a < F.length := by have := (last_spec F j (by omega) a).1; omega
        obtain ⟨z, hz2⟩ : ∃ z, F[last F j a]? = some z := ⟨_, List.getElem?_eq_getElem hlt⟩
        have haz := adr_some hz2
        have kV0 := Lib.hid kV
        unfold boxQ at kV
        rw [haz] at kV
        obtain ⟨f0, f1, f2, f3, f4, f5⟩ := facts3 kV
        have kWV := hV.blk (hWr.blk KW.out (by omega)) (by omega)
        have c0 := kWV.cell (j * 3)
        have c1 := kWV.cell (j * 3 + 1)
        have c2 := kWV.cell (j * 3 + 2)
        rw [Array.getElem?_eq_getElem (by omega)] at c0 c1 c2
        have d0 := kWV.free (j * 3)
        have d1 := kWV.free (j * 3 + 1)
        have d2 := kWV.free (j * 3 + 2)
        have HV := Lib.hid hV
        have KV := Lib.hid kV
        have KWV := Lib.hid kWV
        clear hV kV kWV hseq
        go_wp2_with fail
        simp only [Exit.noGoto, Exit.inBlock]
        have hnx := HLS.out.next n0 hz1 hWr HV.out hb0.symm hD hVD kV0.out _ haz
        refine ⟨⟨j, _, D :: ds, _, _, _, _, _, _, _, _, _, _, _, _, _, _, _, _, _, _, _, _, _, _, _, _, rfl, by omega, hnx⟩, ?_⟩
        rw [hlv, hnx.lev]
        omega
      refine (wpIn_wide (n := 6)).1 (range_f (gf := 112) (encs := encQ F j) (xs := steps F j (last F (j + 1) a)) (L := [bA]) rfl (enters_of Tryz.func112 (by kernel_rfl) rfl) hseq (fun _ _ => rfl)
        (fun i V => ∃ q, q ≤ a ∧ j < lev F q ∧ q < F.length ∧ (steps F j (last F (j + 1) a)).drop i = steps F j q ∧ Blk V bA 148 (boxQ F j q) ∧ Far (fun b => b = bA) Wr V)
        (fun c _ V => match c with
          | .exit id => id = 2 ∧ Blk V bA 148 (boxQ F j (last F j a)) ∧ Far (fun b => b = bA) Wr V
          | _ => False)
        ?hI ?hIx ?hIa ?hIxa ?h0 (fun _ x a' V => ∃ c, (c ≠ bA ∧ Wr.heap.size ≤ c ∧ a' = { tmps := #[.pointer (some ⟨p, 0, none⟩), .func (.func K) #[] caps, u2, .pointer (some ⟨b0, 0, none⟩), .pointer (some ⟨b0 + 1, 0, none⟩), .pointer (some ⟨b0 + 1 + 1, 0, none⟩), .pointer (some ⟨bA, 0, none⟩), .pointer (some ⟨c, 0, none⟩), u8, u9, .pointer (some ⟨bA, 2, none⟩), .int .i64 ((j : Int) + 1), .bool true, .pointer (some ⟨bA, 2, none⟩), .int .i64 ((j : Int) + 1), .int .i64 j, .pointer (some ⟨bA, 2, none⟩), .agg #[adr F (last F (j + 1) a), .int .i64 ((last F (j + 1) a : Int) - 1), .int .i64 j], .func (.func 112) #[.agg #[adr F (last F (j + 1) a), .int .i64 ((last F (j + 1) a : Int) - 1), .int .i64 j]] #[], stp F j x, u20, u21, u22, u23, u24, u25, u26, u27, u28, u29], defers := [] }) ∧ Blk V c 148 (boxQ F j x)) ?hAx ?assign ?body ?done ?stop)
      case hI => exact own_ex fun q => (own_pure _ _).and ((own_pure _ _).and ((own_pure _ _).and ((own_pure _ _).and ((own_blk _ _ _ _).and (own_far (Nat.le_refl _))))))
      case hIx =>
        intro c
        cases c with
        | exit id => exact (own_pure _ _).and ((own_blk _ _ _ _).and (own_far (Nat.le_refl _)))
        | _ => exact own_pure _ _
      case hIa =>
        rintro N hN2 i A B ⟨q, h1, h2, h3, h4, h5, h6⟩ hab
        exact ⟨q, h1, h2, h3, h4, h5.aside hab (by omega), h6.aside hab hN2⟩
      case hIxa =>
        rintro c N hN2 i A B h hab
        cases c with
        | exit id => exact ⟨h.1, h.2.1.aside hab (by omega), h.2.2.aside hab hN2⟩
        | _ => exact h
      case h0 => exact ⟨_, g1, g2, hq0, rfl, kAr, Far.refl _ _⟩
      case hAx => exact fun i x a' => own_ex fun c => (own_pure _ _).and (own_blk _ _ _ _)
      case assign =>
        rintro l i x V K' hx' ⟨q, h1, h2, h3, h4, h5, h6⟩ hK
        have hx2 := mem_steps.1 (List.mem_of_getElem? hx')
        obtain ⟨y, hy⟩ : ∃ y, F[x]? = some y := ⟨_, List.getElem?_eq_getElem hx2.2.1⟩
        have hay := adr_some hy
        have HK3 := Lib.hid hK
        have HI := Lib.hid (And.intro h1 (And.intro h2 (And.intro h3 (And.intro h4 (And.intro h5 h6)))))
        have hzV := h6.size
        clear hK h1 h2 h3 h4 h5 h6 fin hseq hx'
        unfold encQ stp
        rw [hay]
        gi_wp2
        have hbV := (Below.refl V.heap.size V).alloc (Nat.le_refl _) (Obj.cells #[Value.pointer (some ⟨y.b, 0, none⟩), Value.int IntKind.i64 ((x : Int) - 1), Value.int IntKind.i64 j] 148)
        obtain ⟨h1, h2, h3, h4, h5, h6⟩ := HI.out
        refine HK3.out _ _ (keeps_below hbV) (KeepC.of_below hbV) ⟨q, h1, h2, h3, h4, h5.later hbV, h6.then_below hbV⟩ ⟨V.heap.size, ⟨?_, hzV, ?_⟩, ?_⟩
        · have := h5.lt; omega
        · unfold stp; rw [hay]
        · unfold boxQ; rw [hay]; exact Blk.new _ _ _
      case body =>
        rintro l i x a' V hx' ⟨q, h1, h2, h3, h4, h5, h6⟩ ⟨c, ⟨hc1, hc2, rfl⟩, kc⟩
        have hx2 := mem_steps.1 (List.mem_of_getElem? hx')
        obtain ⟨y, hy⟩ : ∃ y, F[x]? = some y := ⟨_, List.getElem?_eq_getElem hx2.2.1⟩
        have hay := adr_some hy
        have hxn : x = nxt F j q := by
          have e1 := (nxt_spec F j q h3).2.2.2.2
          have e2 : (steps F j q)[0]? = some x := by
            rw [← h4, List.getElem?_drop]
            simpa using hx'
          rw [e1] at e2
          split at e2
          · simpa using e2.symm
          · simp at e2
        have hdx : (steps F j (last F (j + 1) a)).drop (i + 1) = steps F j x := by
          have e1 := (nxt_spec F j q h3).2.2.2.2
          rw [← hxn] at e1
          rw [if_pos hx2.2.1] at e1
          have := congrArg (List.drop 1) (h4.trans e1)
          simpa using this
        have k0V := h6.blk (hWr.blk K0.out (by omega)) (by omega)
        have hcall := hA.call j x V (by omega) (by omega) hx2.2.1 (by
          rw [hb0]
          have z1 := hBr.size
          exact ⟨h6.os.trans hBr.os, h6.tape.trans hBr.tape, h6.output.trans hBr.output, Nat.le_trans z1 h6.size, fun q hq => (h6.block q (by omega) (by omega)).trans (hBr.block q hq)⟩)
        have henter := hA.enter
        have kcF := kc.free
        unfold boxQ at kc
        rw [hay] at kc
        obtain ⟨f0, f1, f2, f3, f4, f5⟩ := facts3 kc
        obtain ⟨e0, e1⟩ := facts1 k0V
        unfold stp at hcall
        rw [hay] at hcall
        have HC := Lib.hid hcall
        have HXN := Lib.hid hxn
        have HDX := Lib.hid hdx
        clear hxn hdx
        have H5 := Lib.hid h5
        have H6 := Lib.hid h6
        have KC := Lib.hid kc
        clear hcall h5 h6 kc k0V fin hseq kcF hx' hy
        gi_wp2
        refine ⟨trivial, ?_⟩
        refine (CallsIn.inRound l (callsIn_wide.2 HC.out)).mono ?_
        rintro e W5 ⟨rfl, hb5⟩
        have kc5 := KC.out.later hb5
        have kA5 := H5.out.later hb5
        have hF5 := H6.out.then_below hb5
        have KA5 := Lib.hid kA5
        have HF5 := Lib.hid hF5
        have HB5 := Lib.hid hb5
        clear f0 f1 f2 f3 f4 f5 e0 e1
        by_cases hxa : x ≤ a
        · have hda : decide (x ≤ a) = true := by simpa using hxa
          rw [hda]
          obtain ⟨f0, f1, f2, f3, f4, f5⟩ := facts3 kc5
          unfold boxQ at kA5
          obtain ⟨d0, d1, d2, d3, d4, d5⟩ := facts3 kA5
          clear kc5 kA5 hF5 hb5
          gi_wp2
          refine ⟨?_, ?_, x, hxa, hx2.2.2, hx2.2.1, HDX.out, ?_, ?_⟩
          · exact keeps_trans (keeps_below HB5.out) (keeps_trans (keeps_set KA5.out 0 _) (keeps_trans (keeps_set (KA5.out.set 0 _) 1 _) (keeps_set ((KA5.out.set 0 _).set 1 _) 2 _)))
          · exact (KeepC.of_below HB5.out).trans ((KeepC.set _ _ _ _ (by simp)).trans ((KeepC.set _ _ _ _ (by simp)).trans (KeepC.set _ _ _ _ (by simp))))
          · have := ((KA5.out.set 0 (.pointer (some ⟨y.b, 0, none⟩))).set 1 (.int .i64 ((x : Int) - 1))).set 2 (.int .i64 j)
            unfold boxQ
            rw [hay]
            exact this
          · exact HF5.out.trans (Far.set3 bA W5 0 1 2 _ _ _) (fun k e => .inl e)
        · have hda : decide (x ≤ a) = false := by simpa using hxa
          rw [hda]
          gi_wp2
          refine ⟨keeps_below HB5.out, rfl, ?_, HF5.out⟩
          have e1 := nxt_spec F j q h3
          have := HXN.out
          rw [last_unique (by omega) h1 h2 (fun i hi1 hi2 => e1.2.2.1 i hi1 (by omega))]
          exact KA5.out
      case done =>
        rintro D V hD ⟨q, h1, h2, h3, h4, h5, h6⟩ hVD
        refine fin D V hD ?_ h6 hVD
        have e1 := (nxt_spec F j q h3)
        have e2 : steps F j q = [] := by rw [← h4]; simp
        have e3 : ¬ nxt F j q < F.length := fun e => by
          have := e1.2.2.2.2
          rw [if_pos e, e2] at this
          cases this
        rw [last_unique (by omega) h1 h2 (fun i hi1 hi2 => e1.2.2.1 i hi1 (by omega))]
        exact h5
      case stop =>
        rintro D c i V hD h hVD
        cases c with
        | exit id =>
          obtain ⟨rfl, h1, h2⟩ := h
          refine wpIn_wide.2 ?_
          go_wp2_with fail
          exact fin D V hD h1 h2 hVD
        | _ => exact h.elim
end Go.Proofs.YtpaphfofjfjdlaaGreat.Sk
/- What a search asks: of places, of entries. -/
namespace Go.Proofs.YtpaphfofjfjdlaaGreat.Sk
open Go.RowKit Go.Shelf
attribute [local go_sem] Oper.semAt_some

/-- A world in which all is as it was in w1, and more may lie. -/
structure Ext (w1 : World) where
  w : World
  ok : Below w1.heap.size w1 w
theorem Ext.cell {w1 : World} (x : Ext w1) {b o : Nat} {v : Value} (h : w1.cell? ⟨b, o, none⟩ = some v) : x.w.cell? ⟨b, o, none⟩ = some v :=
  (x.ok.cell (p := ⟨b, o, none⟩) (World.block_lt_of_cell? w1 ⟨b, o, none⟩ h)).trans h
theorem Ext.one (w1 : World) : Nonempty (Ext w1) := ⟨⟨w1, Below.refl _ _⟩⟩
theorem region_ext {P : Program} {id : Nat} {Q : Exit → Act → World → Prop} {a : Act} {w1 w : World} {l : List Oper} (hm : P.follows .mixedOrders = true) (hB : Region.lexB .any l.toArray = true) (hw : Below w1.heap.size w1 w)
    (h : wpQuiet P l.toArray (fun W => ∃ x : Ext w1, W = x.w) (fun a' => ∀ w', (∃ x : Ext w1, w' = x.w) → Q .normal a' w') l a) : (Code.region id l.toArray true).wp P Q a w := by
  exact wp_region_quiet (C := fun W => ∃ x : Ext w1, W = x.w) hm hB ⟨⟨w.drew, hw.drew⟩, rfl⟩ h
theorem Ext.call {P : Program} {f : FuncId} {args : Array Value} {w1 : World} (x : Ext w1) {v : Value} (h : Calls P f args x.w fun e w' => e = .returned v ∧ Below x.w.heap.size x.w w') :
    Calls P f args x.w fun e w'' => e = .returned v ∧ ∃ y : Ext w1, w'' = y.w :=
  h.mono fun _ w' ⟨he, hb⟩ => ⟨he, ⟨w', x.ok.trans (hb.mono x.ok.size)⟩, rfl⟩

theorem facts2 {W : World} {b : Nat} {t : TypeId} {c0 c1 : Value} (h : Blk W b t #[c0, c1]) : W.cell? ⟨b, 0, none⟩ = some c0 ∧ W.cell? ⟨b, 1, none⟩ = some c1 ∧ W.frozen? ⟨b, 0, none⟩ = false ∧ W.frozen? ⟨b, 1, none⟩ = false :=
  ⟨h.cell 0, h.cell 1, h.free 0, h.free 1⟩
/-- Is an entry ahead of another one? -/
def lessE (m : ByteArray) (s : Int) (m' : ByteArray) (s' : Int) : Bool := decide (s < s' ∨ s = s' ∧ m.data.toList < m'.data.toList)
theorem bl_eq (a b : ByteArray) : Op.bytesLess a.toList b.toList = decide (a.data.toList < b.data.toList) := by
  rw [Lib.toList_data, Lib.toList_data, bytesLess_eq]

set_option maxRecDepth 100000 in
theorem less_any (m m' : ByteArray) (s s' : Int) (w : World) : Calls Tryz.prog 96 #[.agg #[.string m, .int .i64 s], .agg #[.string m', .int .i64 s']] w fun e w' => e = .returned (.bool (lessE m s m' s')) ∧ Below w.heap.size w w' := by
  have hb : Below w.heap.size w ((w.alloc (.cells #[.string m, .int .i64 s] 48)).alloc (.cells #[.string m', .int .i64 s'] 48)) := ((Below.refl _ _).alloc (Nat.le_refl _) _).alloc (by simp) _
  have HB := Lib.hid hb
  clear hb
  by_cases h : s = s'
  · have e1 : (s == s') = true := by simpa using h
    have e2 : (s != s') = false := by simpa using h
    have H := Lib.hid h
    clear h
    go_enter Tryz.func96, Tryz.ntmps96
    go_wp2
    go_ret
    refine ⟨congrArg (fun b => Ending.returned (.bool b)) ?_, HB.out⟩
    rw [bl_eq]
    have := H.out
    subst this
    simp [lessE]
  · have e1 : (s == s') = false := by simpa using h
    have e2 : (s != s') = true := by simpa using h
    go_enter Tryz.func96, Tryz.ntmps96
    go_wp2
    go_ret
    refine ⟨congrArg (fun b => Ending.returned (.bool b)) ?_, HB.out⟩
    simp [lessE, h]

variable {w : World} {F : List Nd} {ah : Nat → Value} {n : Int}
set_option maxRecDepth 100000 in
theorem asks_place (c : Nat) (place : Int) (hc : Blk w c 3 #[.int .i64 place]) (a : Nat) (ha : ∀ q, 0 < q → q < F.length → (((q : Int) - 1 < place) ↔ q ≤ a)) : Asks w F a 172 #[.pointer (some ⟨c, 0, none⟩)] := by
  refine ⟨enters_of Tryz.func172 (by kernel_rfl) rfl, fun k q W hk h0 hq hb => ?_⟩
  have k1 := hc.later hb
  obtain ⟨e0, e1⟩ := facts1 k1
  have z1 := k1.lt
  obtain ⟨x, hx⟩ : ∃ x, F[q]? = some x := ⟨_, List.getElem?_eq_getElem hq⟩
  have hax := adr_some hx
  have hqa := Lib.hid (ha q h0 hq)
  unfold stp
  rw [hax]
  clear hc ha h0 hq hb k1 hx hax
  go_enter Tryz.func172, Tryz.ntmps172
  go_wp2
  go_ret
  refine ⟨congrArg (fun b => Ending.returned (.bool b)) ?_, (Below.refl _ _).alloc (Nat.le_refl _) _⟩
  rw [decide_eq_decide]
  exact hqa.out
set_option maxRecDepth 100000 in
set_option maxHeartbeats 2000000 in
theorem asks_entry (c : Nat) (m : ByteArray) (s : Int) (hc : Blk w c 48 #[.string m, .int .i64 s]) (hw : Sk w F (lk0 F) ah n) (a : Nat) (ha : ∀ q x, 0 < q → F[q]? = some x → lessE x.m x.s m s = decide (q ≤ a)) : Asks w F a 95 #[.pointer (some ⟨c, 0, none⟩)] := by
  refine ⟨enters_of Tryz.func95 (by kernel_rfl) rfl, fun k q W hk h0 hq hb => ?_⟩
  have k1 := hc.later hb
  have hS := hw.later hb
  obtain ⟨x, hx⟩ : ∃ x, F[q]? = some x := ⟨_, List.getElem?_eq_getElem hq⟩
  obtain ⟨A, hA, hN⟩ := hS.node q x hx
  have hax := adr_some hx
  have hqa := Lib.hid (ha q x h0 hx)
  unfold stp
  rw [hax]
  have HL := fun w => Lib.hid (less_any x.m m x.s s w)
  obtain ⟨w1, hw1⟩ : ∃ w1, w1 = W.alloc (.cells #[.pointer (some ⟨x.b, 0, none⟩), .int .i64 ((q : Int) - 1), .int .i64 k] 148) := ⟨_, rfl⟩
  have hb1 : Below W.heap.size W w1 := by rw [hw1]; exact (Below.refl _ _).alloc (Nat.le_refl _) _
  have kB : Blk w1 W.heap.size 148 #[.pointer (some ⟨x.b, 0, none⟩), .int .i64 ((q : Int) - 1), .int .i64 k] := by rw [hw1]; exact Blk.new _ _ _
  have q0 := fun y : Ext w1 => y.cell (facts3 kB).1
  have q1 := fun y : Ext w1 => y.cell ((hA.later hb1).cell 0 |>.trans hN.m)
  have q2 := fun y : Ext w1 => y.cell ((hA.later hb1).cell 1 |>.trans hN.s)
  have q3 := fun y : Ext w1 => y.cell (facts2 (k1.later hb1)).1
  have q4 := fun y : Ext w1 => y.cell (facts2 (k1.later hb1)).2.1
  have HW := Lib.hid hw1
  have HB1 := Lib.hid hb1
  have hne := Ext.one w1
  clear hc hw ha h0 hq hb k1 hS hx hA hN hax hw1 hb1 kB
  go_enter Tryz.func95, Tryz.ntmps95
  go_wp2_with fail
  rw [← HW.out]
  refine region_ext (w1 := w1) (by kernel_rfl) (by kernel_rfl) (Below.refl _ _) ?_
  iterate 8 go_big_quiet_step ((go_at_call 96; exact Ext.call _ (HL _).out))
  refine wpQuiet_nil ?_
  rintro _ ⟨y, rfl⟩
  go_wp2_with fail
  go_ret
  refine ⟨?_, HB1.out.trans (y.ok.mono HB1.out.size)⟩
  rw [← hqa.out]
  rfl
end Go.Proofs.YtpaphfofjfjdlaaGreat.Sk
/- The ways to places and to entries; Seek, At, Len. -/
namespace Go.Proofs.YtpaphfofjfjdlaaGreat.Sk
open Go.RowKit Go.Shelf
attribute [local go_sem] Oper.semAt_some

variable {w : World} {F : List Nd} {ah : Nat → Value} {n : Int}
set_option maxRecDepth 100000 in
set_option maxHeartbeats 2000000 in
theorem toPlace_any (p : Nat) (L : List Nd) (hF : F = hd p :: L) (hw : Sk w F (lk0 F) ah n) (hN : F.length ≤ 1000000) (a : Nat) (ha : a < F.length) :
    Calls Tryz.prog 165 #[.pointer (some ⟨p, 0, none⟩), .int .i64 a] w fun e w' => e = .returned (.agg (wayA F a)) ∧ Below w.heap.size w w' := by
  have hz := zero71
  have hzs := zW_size
  generalize zW = zw at *
  have hb1 : Below w.heap.size w ((w.alloc (.cells #[.int .i64 a] 3)).alloc (.cells zw 150)) := ((Below.refl _ _).alloc (Nat.le_refl _) _).alloc (by simp) _
  have kC : Blk ((w.alloc (.cells #[.int .i64 a] 3)).alloc (.cells zw 150)) w.heap.size 3 #[.int .i64 a] := (Blk.new _ _ _).alloc _
  have kR : Blk ((w.alloc (.cells #[.int .i64 a] 3)).alloc (.cells zw 150)) (w.heap.size + 1) 150 zw := by have := Blk.new (w.alloc (.cells #[.int .i64 a] 3)) 150 zw; simpa using this
  have hasks := asks_place (F := F) w.heap.size a kC a (fun q h1 h2 => by omega)
  have HD := Lib.hid (down_any p L F hF ah n _ (hw.later hb1) hN a ha 172 _ hasks)
  have HB1 := Lib.hid hb1
  have HR := Lib.hid kR
  have hw1 := wayA_size F a
  have hw2 := way_one F a
  generalize wayA F a = WA at *
  clear hb1 kC kR hasks hw hF
  go_enter Tryz.func165, Tryz.ntmps165
  go_wp2_with fail
  rename_i Kk hKk
  refine HD.out.mono ?_
  rintro e w2 ⟨rfl, hb2⟩
  have k2 := HR.out.later hb2
  have hb3 := HB1.out.trans (hb2.mono HB1.out.size)
  clear hb2
  refine hKk _ _ ?_
  refine wpList_plain rfl ?_
  intro K2 hK2
  refine wp_store71 _ _ rfl _ rfl rfl k2 hzs hw1 hw2 ?_
  refine hK2 _ _ ?_
  have k3 := k2.setRow WA
  go_wp2_with fail
  refine bodyPost_ret (results_cell Tryz.results165 (b := ⟨w.heap.size + 1, 0, none⟩) rfl (loadVar71 k3 hw1)) rfl ?_
  refine ⟨rfl, hb3.os, hb3.tape, hb3.output, by rw [setRow_size]; exact hb3.size, fun q hq => (setRow_other _ (by omega)).trans (hb3.block q hq)⟩

set_option maxRecDepth 100000 in
set_option maxHeartbeats 2000000 in
theorem toEntry_any (p : Nat) (L : List Nd) (hF : F = hd p :: L) (hw : Sk w F (lk0 F) ah n) (hN : F.length ≤ 1000000) (m : ByteArray) (s : Int) (a : Nat) (ha : a < F.length) (hq : ∀ q x, 0 < q → F[q]? = some x → lessE x.m x.s m s = decide (q ≤ a)) :
    Calls Tryz.prog 78 #[.pointer (some ⟨p, 0, none⟩), .agg #[.string m, .int .i64 s]] w fun e w' => e = .returned (.agg (wayA F a)) ∧ Below w.heap.size w w' := by
  have hz := zero71
  have hzs := zW_size
  generalize zW = zw at *
  have hb1 : Below w.heap.size w ((w.alloc (.cells #[.string m, .int .i64 s] 48)).alloc (.cells zw 150)) := ((Below.refl _ _).alloc (Nat.le_refl _) _).alloc (by simp) _
  have kC : Blk ((w.alloc (.cells #[.string m, .int .i64 s] 48)).alloc (.cells zw 150)) w.heap.size 48 #[.string m, .int .i64 s] := (Blk.new _ _ _).alloc _
  have kR : Blk ((w.alloc (.cells #[.string m, .int .i64 s] 48)).alloc (.cells zw 150)) (w.heap.size + 1) 150 zw := by have := Blk.new (w.alloc (.cells #[.string m, .int .i64 s] 48)) 150 zw; simpa using this
  have hasks := asks_entry (F := F) w.heap.size m s kC (hw.later hb1) a hq
  have HD := Lib.hid (down_any p L F hF ah n _ (hw.later hb1) hN a ha 95 _ hasks)
  have HB1 := Lib.hid hb1
  have HR := Lib.hid kR
  have hw1 := wayA_size F a
  have hw2 := way_one F a
  generalize wayA F a = WA at *
  clear hb1 kC kR hasks hw hF hq
  go_enter Tryz.func78, Tryz.ntmps78
  go_wp2_with fail
  rename_i Kk hKk
  refine HD.out.mono ?_
  rintro e w2 ⟨rfl, hb2⟩
  have k2 := HR.out.later hb2
  have hb3 := HB1.out.trans (hb2.mono HB1.out.size)
  clear hb2
  refine hKk _ _ ?_
  refine wpList_plain rfl ?_
  intro K2 hK2
  refine wp_store71 _ _ rfl _ rfl rfl k2 hzs hw1 hw2 ?_
  refine hK2 _ _ ?_
  have k3 := k2.setRow WA
  go_wp2_with fail
  refine bodyPost_ret (results_cell Tryz.results78 (b := ⟨w.heap.size + 1, 0, none⟩) rfl (loadVar71 k3 hw1)) rfl ?_
  refine ⟨rfl, hb3.os, hb3.tape, hb3.output, by rw [setRow_size]; exact hb3.size, fun q hq => (setRow_other _ (by omega)).trans (hb3.block q hq)⟩

/-- Len. -/
theorem len_nil (w : World) : Calls Tryz.prog 159 #[.pointer none] w fun e w' => e = .returned (.int .i64 0) ∧ w' = w := by
  go_enter Tryz.func159, Tryz.ntmps159
  go_wp2
  go_ret
  exact ⟨rfl, rfl⟩
theorem len_any (p : Nat) (L : List Nd) (hF : F = hd p :: L) (hw : Sk w F (lk0 F) ah n) : Calls Tryz.prog 159 #[.pointer (some ⟨p, 0, none⟩)] w fun e w' => e = .returned (.int .i64 n) ∧ w' = w := by
  obtain ⟨A, hA, hN⟩ := hw.node 0 (hd p) (by rw [hF]; rfl)
  have e0 := (hA.cell 67).trans (hN.n rfl)
  have e1 : w.cell? ⟨p, 67, none⟩ = some (.int .i64 n) := e0
  clear hA hN hw hF e0
  go_enter Tryz.func159, Tryz.ntmps159
  go_wp2
  go_ret
  exact ⟨rfl, rfl⟩
theorem part_nil (f t : Int) (w : World) : Calls Tryz.prog 169 #[.pointer none, .int .i64 f, .int .i64 t] w fun e w' => e = .returned (.tuple #[.int .i64 (max f 0), .int .i64 (min t 0)]) ∧ w' = w := by
  have HL := fun w => Lib.hid (len_nil w)
  go_enter Tryz.func169, Tryz.ntmps169
  go_wp2_with fail
  refine (HL _).out.mono ?_
  rintro e w1 ⟨rfl, rfl⟩
  go_wp2
  go_returns
  exact ⟨rfl, rfl⟩
theorem part_any (p : Nat) (L : List Nd) (hF : F = hd p :: L) (hw : Sk w F (lk0 F) ah n) (f t : Int) : Calls Tryz.prog 169 #[.pointer (some ⟨p, 0, none⟩), .int .i64 f, .int .i64 t] w fun e w' => e = .returned (.tuple #[.int .i64 (max f 0), .int .i64 (min t n)]) ∧ w' = w := by
  have HL := Lib.hid (len_any p L hF hw)
  clear hF hw
  go_enter Tryz.func169, Tryz.ntmps169
  go_wp2_with fail
  refine HL.out.mono ?_
  rintro e w1 ⟨rfl, rfl⟩
  go_wp2
  go_returns
  exact ⟨rfl, rfl⟩

theorem beq_toList {a b : ByteArray} (h : a.toList = b.toList) : a = b := by
  have h1 : a.data.toList = b.data.toList := by rw [← Lib.toList_data, ← Lib.toList_data]; exact h
  cases a; cases b
  simp at h1
  rw [h1]
theorem eq_ent (m m' : ByteArray) (s s' : Int) (b : Bool) (h : decide (m = m' ∧ s = s') = b) (W : World) :
    (binOp .eql 48 (.agg #[.string m, .int .i64 s]) (.agg #[.string m', .int .i64 s'])).run Tryz.prog W = .ok (.bool b) W := by
  by_cases h1 : s = s'
  · by_cases h2 : m = m'
    · rw [h1, h2] at h
      simp at h
      subst h
      rw [h1, h2]
      simp [go_sem]
    · have h3 : ¬ m.toList = m'.toList := fun e => h2 (beq_toList e)
      simp [h1, h2] at h
      subst h
      rw [h1]
      simp [go_sem, h3]
  · simp [h1] at h
    subst h
    simp [go_sem, h1]
/-- leads: does a step's link lead to an entry? -/
def entAt (F : List Nd) (q : Nat) (m : ByteArray) (s : Int) : Bool := match F[q]? with
  | some x => decide (x.m = m ∧ x.s = s)
  | none => false
set_option maxRecDepth 100000 in
set_option maxHeartbeats 2000000 in
theorem leads_any (hw : Sk w F (lk0 F) ah n) (k q : Nat) (hk : k < 32) (hq : q < F.length) (hl : k < lev F q) (m : ByteArray) (s : Int) : Calls Tryz.prog 79 #[.agg #[adr F q, .int .i64 ((q : Int) - 1), .int .i64 k], .agg #[.string m, .int .i64 s]] w fun e w' => e = .returned (.bool (entAt F (nxt F k q) m s)) ∧ Below w.heap.size w w' := by
  obtain ⟨x, hx⟩ : ∃ x, F[q]? = some x := ⟨_, List.getElem?_eq_getElem hq⟩
  obtain ⟨A, hA, hN⟩ := hw.node q x hx
  rw [lev_some hx] at hl
  obtain ⟨l1, _⟩ := hN.link k hl
  have c1 := (hA.cell (3 + k * 2)).trans l1
  unfold lk0 at c1
  simp only at c1
  have hax := adr_some hx
  have HLK := fun w => Lib.hid (link_any x.b ((q : Int) - 1) k hk w)
  have hb1 : Below w.heap.size w ((w.alloc (.cells #[.pointer (some ⟨x.b, 0, none⟩), .int .i64 ((q : Int) - 1), .int .i64 k] 148)).alloc (.cells #[.string m, .int .i64 s] 48)) := ((Below.refl _ _).alloc (Nat.le_refl _) _).alloc (by simp) _
  have kE : Blk ((w.alloc (.cells #[.pointer (some ⟨x.b, 0, none⟩), .int .i64 ((q : Int) - 1), .int .i64 k] 148)).alloc (.cells #[.string m, .int .i64 s] 48)) (w.heap.size + 1) 48 #[.string m, .int .i64 s] := by
    have := Blk.new (w.alloc (.cells #[.pointer (some ⟨x.b, 0, none⟩), .int .i64 ((q : Int) - 1), .int .i64 k] 148)) 48 #[.string m, .int .i64 s]; simpa using this
  have HB1 := Lib.hid hb1
  have HE := Lib.hid kE
  have HA := Lib.hid hA
  rw [hax]
  by_cases hlast : nxt F k q < F.length
  · obtain ⟨y, hy⟩ : ∃ y, F[nxt F k q]? = some y := ⟨_, List.getElem?_eq_getElem hlast⟩
    obtain ⟨B, hB, hNB⟩ := hw.node _ y hy
    have d0 := (hB.cell 0).trans hNB.m
    have d1 := (hB.cell 1).trans hNB.s
    have hv : entAt F (nxt F k q) m s = decide (y.m = m ∧ y.s = s) := by unfold entAt; rw [hy]
    have HV := Lib.hid hv
    have HBB := Lib.hid hB
    rw [adr_some hy] at c1
    clear hw hx hA hN hl l1 hb1 kE hy hB hNB hv hax
    go_enter Tryz.func79, Tryz.ntmps79
    go_wp2_with fail
    refine (HLK _).out.mono ?_
    rintro e w2 ⟨rfl, hb2⟩
    have hb3 := HB1.out.trans (hb2.mono HB1.out.size)
    have c1' := (hb3.cell (p := ⟨x.b, 3 + k * 2, none⟩) HA.out.lt).trans c1
    have d0' := (hb3.cell (p := ⟨y.b, 0, none⟩) HBB.out.lt).trans d0
    have d1' := (hb3.cell (p := ⟨y.b, 1, none⟩) HBB.out.lt).trans d1
    obtain ⟨e0, e1, _, _⟩ := facts2 (HE.out.later hb2)
    have HB3 := Lib.hid hb3
    have heq := eq_ent y.m m y.s s _ rfl
    generalize decide (y.m = m ∧ y.s = s) = bb at *
    clear hb2 hb3 c1 d0 d1
    go_wp2_with fail
    go_quiet (fail)
    go_wp2
    go_ret
    refine ⟨?_, HB3.out.trans ((drewB _ _).mono HB3.out.size)⟩
    rw [HV.out]
    rfl
  · have hv : entAt F (nxt F k q) m s = false := by unfold entAt; rw [List.getElem?_eq_none (by omega)]
    have HV := Lib.hid hv
    rw [adr_none (F := F) (q := nxt F k q) (by omega)] at c1
    clear hw hx hA hN hl l1 hb1 kE hv hax
    go_enter Tryz.func79, Tryz.ntmps79
    go_wp2_with fail
    refine (HLK _).out.mono ?_
    rintro e w2 ⟨rfl, hb2⟩
    have hb3 := HB1.out.trans (hb2.mono HB1.out.size)
    have c1' := (hb3.cell (p := ⟨x.b, 3 + k * 2, none⟩) HA.out.lt).trans c1
    have HB3 := Lib.hid hb3
    clear hb2 hb3 c1
    go_wp2_with fail
    go_quiet (fail)
    go_wp2
    go_ret
    refine ⟨?_, HB3.out.trans ((drewB _ _).mono HB3.out.size)⟩
    rw [HV.out]
    rfl
end Go.Proofs.YtpaphfofjfjdlaaGreat.Sk
/- Seek, At. -/
namespace Go.Proofs.YtpaphfofjfjdlaaGreat.Sk
open Go.RowKit Go.Shelf
attribute [local go_sem] Oper.semAt_some

theorem info148 : (Tryz.prog.info? 148).map (·.size) = some 3 := by kernel_rfl
theorem index71 (F : List Nd) (a : Nat) (W : World) : (Instr.index 150 (.agg (wayA F a)) (.int .i64 0)).run Tryz.prog W = .ok (.agg (boxQ F 0 (last F 0 a))) W := by
  have he : (wayA F a).extract 0 3 = boxQ F 0 (last F 0 a) := by
    apply Array.ext_getElem?
    intro i
    rw [Array.getElem?_extract]
    by_cases hi : i < 3
    · have := wayA_at F a 0 i (by decide) hi
      simp at this
      simp [hi, this, wayA_size]
    · rw [if_neg (by simp [wayA_size]; omega), Array.getElem?_eq_none (by simp [boxQ]; omega)]
  have h69 : ∀ w, (isAgg 148).run Tryz.prog w = .ok true w := fun w => by
    unfold isAgg
    rw [Sem.run_bind, run_underlying (show Tryz.prog.underlying 148 = some _ from Tryz.underlying148) w]
    rfl
  cases hq : Tryz.prog.info? 148 with
  | none => have := info148; simp [hq] at this
  | some i =>
    have hs : i.size = 3 := by have := info148; simpa [hq] using this
    unfold Instr.index
    simp [asIntOf, Sem.run_bind, run_underlying under71, part, h69, sizeOf, typeInfo, hq, hs, he]

variable {w : World} {F : List Nd} {ah : Nat → Value} {n : Int}
theorem lev_pos (hw : Sk w F (lk0 F) ah n) (i : Nat) (hi : i < F.length) : 0 < lev F i := by
  rw [lev_some (List.getElem?_eq_getElem hi)]
  exact (hw.lev i _ (List.getElem?_eq_getElem hi)).1
theorem nxt_zero (hp : ∀ i, i < F.length → 0 < lev F i) (q : Nat) (hq : q < F.length) : nxt F 0 q = q + 1 :=
  nxt_unique hq (by omega) (by omega) (fun i h1 h2 => by omega) (fun h => hp _ h)

theorem seek_nil (m : ByteArray) (s : Int) (w : World) : Calls Tryz.prog 168 #[.pointer none, .agg #[.string m, .int .i64 s]] w fun e w' => e = .returned (.tuple #[.int .i64 0, .bool false]) ∧ Below w.heap.size w w' := by
  go_enter Tryz.func168, Tryz.ntmps168
  go_wp2
  go_returns
  exact ⟨rfl, (Below.refl _ _).alloc (Nat.le_refl _) _⟩

set_option maxRecDepth 100000 in
set_option maxHeartbeats 2000000 in
theorem seek_any (p : Nat) (L : List Nd) (hF : F = hd p :: L) (hw : Sk w F (lk0 F) ah n) (hN : F.length ≤ 1000000) (m : ByteArray) (s : Int) (a : Nat) (ha : a < F.length) (hq : ∀ q x, 0 < q → F[q]? = some x → lessE x.m x.s m s = decide (q ≤ a)) :
    Calls Tryz.prog 168 #[.pointer (some ⟨p, 0, none⟩), .agg #[.string m, .int .i64 s]] w fun e w' => e = .returned (.tuple #[.int .i64 a, .bool (entAt F (a + 1) m s)]) ∧ Below w.heap.size w w' := by
  have hp := lev_pos hw
  have hla := last_zero F hp a ha
  have hnx := nxt_zero hp a ha
  have hix := index71 F a
  rw [hla] at hix
  have hb1 : Below w.heap.size w (w.alloc (.cells #[.string m, .int .i64 s] 48)) := (Below.refl _ _).alloc (Nat.le_refl _) _
  have kE : Blk (w.alloc (.cells #[.string m, .int .i64 s] 48)) w.heap.size 48 #[.string m, .int .i64 s] := Blk.new _ _ _
  have HT := Lib.hid (toEntry_any p L hF (hw.later hb1) hN m s a ha hq)
  obtain ⟨x, hx⟩ : ∃ x, F[a]? = some x := ⟨_, List.getElem?_eq_getElem ha⟩
  have hax := adr_some hx
  have HLD := fun (W : World) (hb : Below w.heap.size w W) => Lib.hid (leads_any (hw.later hb) 0 a (by decide) ha (hp a ha) m s)
  rw [hnx] at HLD
  unfold boxQ at hix
  have h00 : ((0 : Nat) : Int) = 0 := rfl
  simp only [hax, h00] at HLD hix
  clear h00
  have HB1 := Lib.hid hb1
  have HE := Lib.hid kE
  generalize wayA F a = WA at *
  generalize entAt F (a + 1) m s = bb at *
  have hN2 : (a : Int) ≤ 1000000 := by omega
  clear hb1 kE hw hF hq hp hla hnx hx hax ha hN
  go_enter Tryz.func168, Tryz.ntmps168
  go_wp2_with fail
  refine HT.out.mono ?_
  rintro e w2 ⟨rfl, hb2⟩
  have e0 := (facts2 (HE.out.later hb2)).1
  have e1 := (facts2 (HE.out.later hb2)).2.1
  have hb3 := HB1.out.trans (hb2.mono HB1.out.size)
  have hlt := (HE.out.later hb2).lt
  have kS := Blk.new w2 148 #[.pointer (some ⟨x.b, 0, none⟩), .int .i64 ((a : Int) - 1), .int .i64 0]
  have hb4 : Below w2.heap.size w2 (w2.alloc (.cells #[.pointer (some ⟨x.b, 0, none⟩), .int .i64 ((a : Int) - 1), .int .i64 0] 148)) := (Below.refl _ _).alloc (Nat.le_refl _) _
  have kE2 := (HE.out.later hb2).later hb4
  have hbw := hb3.trans (hb4.mono hb3.size)
  have HBW := Lib.hid hbw
  obtain ⟨w3, hw3⟩ : ∃ w3, w3 = w2.alloc (.cells #[.pointer (some ⟨x.b, 0, none⟩), .int .i64 ((a : Int) - 1), .int .i64 0] 148) := ⟨_, rfl⟩
  have HW3 := Lib.hid hw3
  rw [← hw3] at kS kE2 HBW
  have q0 := fun y : Ext w3 => y.cell (facts3 kS).1
  have q1 := fun y : Ext w3 => y.cell (facts3 kS).2.1
  have q2 := fun y : Ext w3 => y.cell (facts3 kS).2.2.1
  have q3 := fun y : Ext w3 => y.cell (facts2 kE2).1
  have q4 := fun y : Ext w3 => y.cell (facts2 kE2).2.1
  have HLD3 := fun y : Ext w3 => HLD y.w (HBW.out.trans (y.ok.mono HBW.out.size))
  have hne := Ext.one w3
  clear hb2 hb3 hb4 hbw hw3 kS kE2 HLD
  go_wp2_with fail
  rw [← HW3.out]
  refine region_ext (w1 := w3) (by kernel_rfl) (by kernel_rfl) (Below.refl _ _) ?_
  iterate 8 go_big_quiet_step ((go_at_call 79; exact Ext.call _ (HLD3 _).out))
  refine wpQuiet_nil ?_
  rintro _ ⟨y, rfl⟩
  go_wp2_with fail
  go_returns
  exact ⟨rfl, HBW.out.trans (y.ok.mono HBW.out.size)⟩

/-- At. -/
theorem zero32 (w : World) : (zeroValue 48).run Tryz.prog w = .ok (.agg #[.string ⟨#[]⟩, .int .i64 0]) w := (zero_of_info (n := 2) (by kernel_rfl)).1 w
set_option maxRecDepth 100000 in
theorem at_out (p : Option Addr) (v : Int) (w : World) (k : Int) (hl : ∀ w', Below w.heap.size w w' → Calls Tryz.prog 159 #[.pointer p] w' fun e w'' => e = .returned (.int .i64 k) ∧ w'' = w') (hv : v < 0 ∨ k ≤ v) :
    Calls Tryz.prog 156 #[.pointer p, .int .i64 v] w fun e w' => e = .returned (.tuple #[.agg #[.string ⟨#[]⟩, .int .i64 0], .bool false]) ∧ Below w.heap.size w w' := by
  have hb1 : Below w.heap.size w (w.alloc (.cells #[.string ⟨#[]⟩, .int .i64 0] 48)) := (Below.refl _ _).alloc (Nat.le_refl _) _
  have HL := Lib.hid (hl _ hb1)
  have HB := Lib.hid hb1
  clear hl hb1
  by_cases h0 : v < 0
  · clear hv
    go_enter Tryz.func156, Tryz.ntmps156
    go_wp2
    go_returns
    exact ⟨rfl, HB.out⟩
  · have hk : k ≤ v := by omega
    clear hv
    go_enter Tryz.func156, Tryz.ntmps156
    go_wp2_with fail
    refine HL.out.mono ?_
    rintro e w1 ⟨rfl, rfl⟩
    go_wp2
    go_returns
    exact ⟨rfl, HB.out⟩

set_option maxRecDepth 100000 in
set_option maxHeartbeats 2000000 in
theorem at_any (p : Nat) (L : List Nd) (hF : F = hd p :: L) (hw : Sk w F (lk0 F) ah n) (hn : n = L.length) (hN : F.length ≤ 1000000) (a : Nat) (x : Nd) (hx : L[a]? = some x) :
    Calls Tryz.prog 156 #[.pointer (some ⟨p, 0, none⟩), .int .i64 a] w fun e w' => e = .returned (.tuple #[.agg #[.string x.m, .int .i64 x.s], .bool true]) ∧ Below w.heap.size w w' := by
  have hp := lev_pos hw
  have haL : a < L.length := (List.getElem?_eq_some_iff.1 hx).1
  have hFl : F.length = L.length + 1 := by rw [hF]; rfl
  have ha : a < F.length := by omega
  have hla := last_zero F hp a ha
  have hnx := nxt_zero hp a ha
  have hix := index71 F a
  rw [hla] at hix
  have hb1 : Below w.heap.size w (w.alloc (.cells #[.string ⟨#[]⟩, .int .i64 0] 48)) := (Below.refl _ _).alloc (Nat.le_refl _) _
  have kR : Blk (w.alloc (.cells #[.string ⟨#[]⟩, .int .i64 0] 48)) w.heap.size 48 #[.string ⟨#[]⟩, .int .i64 0] := Blk.new _ _ _
  have HL := Lib.hid (len_any p L hF (hw.later hb1))
  have HT := Lib.hid (toPlace_any p L hF (hw.later hb1) hN a ha)
  obtain ⟨y, hy⟩ : ∃ y, F[a]? = some y := ⟨_, List.getElem?_eq_getElem ha⟩
  have hay := adr_some hy
  have hxF : F[a + 1]? = some x := by rw [hF]; simpa using hx
  obtain ⟨A, hA, hNA⟩ := hw.node _ y hy
  obtain ⟨B, hB, hNB⟩ := hw.node _ x hxF
  have c0 := (hA.cell 3).trans (hNA.link 0 (hw.lev _ _ hy).1).1
  unfold lk0 at c0
  rw [hnx, adr_some hxF] at c0
  have d0 := (hB.cell 0).trans hNB.m
  have d1 := (hB.cell 1).trans hNB.s
  have HLK := fun w => Lib.hid (link_any y.b ((a : Int) - 1) 0 (by decide) w)
  unfold boxQ at hix
  have h00 : ((0 : Nat) : Int) = 0 := rfl
  simp only [hay, h00] at HLK hix
  clear h00
  have HB1 := Lib.hid hb1
  have HR := Lib.hid kR
  have HA := Lib.hid hA
  have HB := Lib.hid hB
  have han : (a : Int) < n := by omega
  generalize wayA F a = WA at *
  clear hb1 kR hw hF hp hla hnx hx hy hay ha hN hFl haL hxF hA hNA hB hNB hn
  go_enter Tryz.func156, Tryz.ntmps156
  go_wp2_with fail
  refine HL.out.mono ?_
  rintro e w1 ⟨rfl, rfl⟩
  go_wp2_with fail
  refine HT.out.mono ?_
  rintro e w2 ⟨rfl, hb2⟩
  have hb3 := HB1.out.trans (hb2.mono HB1.out.size)
  have HB3 := Lib.hid hb3
  have kR2 := Lib.hid (HR.out.later hb2)
  clear hb2 hb3
  go_wp2_with fail
  refine (HLK _).out.mono ?_
  rintro e w3 ⟨rfl, hb2⟩
  have hb3 := HB3.out.trans (hb2.mono HB3.out.size)
  have c0' := (hb3.cell (p := ⟨y.b, 3, none⟩) HA.out.lt).trans c0
  have d0' := (hb3.cell (p := ⟨x.b, 0, none⟩) HB.out.lt).trans d0
  have d1' := (hb3.cell (p := ⟨x.b, 1, none⟩) HB.out.lt).trans d1
  obtain ⟨e0, e1, e2, e3⟩ := facts2 (kR2.out.later hb2)
  have HB4 := Lib.hid hb3
  have kR3 := Lib.hid (kR2.out.later hb2)
  clear hb2 hb3 c0 d0 d1
  go_wp2
  have g0 := (kR3.out.set 0 (.string x.m)).cell 0
  have g1 := ((kR3.out.set 0 (.string x.m)).set 1 (.int .i64 x.s)).cell 1
  simp at g0 g1
  refine bodyPost_ret (v := .tuple #[.agg #[.string x.m, .int .i64 x.s], .bool true]) (by simp [results, Tryz.results156, go_sem, g0, g1]) rfl ?_
  refine ⟨rfl, ?_⟩
  have hb4 := HB4.out
  exact ⟨hb4.os, hb4.tape, hb4.output, by simpa [World.setCell] using hb4.size, fun q hq => (Below.heap_setCell _ _ _ _ (Nat.ne_of_lt hq)).trans ((Below.heap_setCell _ _ _ _ (Nat.ne_of_lt hq)).trans (hb4.block q hq))⟩
end Go.Proofs.YtpaphfofjfjdlaaGreat.Sk
