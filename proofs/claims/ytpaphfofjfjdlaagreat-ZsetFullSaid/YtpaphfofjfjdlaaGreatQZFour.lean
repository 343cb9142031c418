/- A set of four hundred members: what is full. -/
import Derived.Test.YtpaphfofjfjdlaaGreatQZFind
import Derived.Test.YtpaphfofjfjdlaaGreatQZF
namespace Go.Proofs.YtpaphfofjfjdlaaGreat
open Go.RowKit Go.Shelf Sk
attribute [local go_sem] Oper.semAt_some

set_option maxRecDepth 100000 in
set_option maxHeartbeats 4000000 in
theorem find_val (fv : Value) (E : List En) (hl : E.length ≤ 1000000000) (mem : ByteArray) (w : World) (HT : ∀ W, Below w.heap.size w W → Hid (Calls Tryz.prog 46 #[fv] W (Thru W E))) :
    Calls Tryz.prog 60 #[fv, .string mem] w fun e w' => (∃ m' s', e = .returned (.tuple #[.agg #[.string m', .int .i64 s'], .bool (decide (∃ x ∈ E, x.1 = mem))])) ∧ Below w.heap.size w w' := by
  refine (callsIn_wide (n := 6)).1 (callsIn_of_wp_marks Tryz.func60 rfl trivial ?_ rfl)
  refine wpIn_wide.2 ?_
  simp only [Tryz.ntmps60, List.size_toArray, List.length_cons, List.length_nil, Nat.reduceAdd, Nat.reduceSub, Array.replicate_succ, Array.replicate_zero, List.push_toArray, List.append_toArray, List.nil_append, List.cons_append]
  have hB0 : Below w.heap.size w ((((w.alloc (Obj.cells #[Value.string mem] 9)).alloc (Obj.cells #[Value.string { data := #[] }, Value.int IntKind.i64 0] 48)).alloc (Obj.cells #[Value.string { data := #[] }, Value.int IntKind.i64 0] 48)).alloc (Obj.cells #[Value.bool false] 4)) :=
    ((((Below.refl w.heap.size w).alloc (Nat.le_refl _) _).alloc (by simp) _).alloc (by simp; omega) _).alloc (by simp; omega) _
  have k0 := (((Blk.new w 9 #[.string mem]).alloc (Obj.cells #[Value.string { data := #[] }, Value.int IntKind.i64 0] 48)).alloc (Obj.cells #[Value.string { data := #[] }, Value.int IntKind.i64 0] 48)).alloc (Obj.cells #[Value.bool false] 4)
  have k1 := ((Blk.new (w.alloc (Obj.cells #[Value.string mem] 9)) 48 #[Value.string { data := #[] }, Value.int IntKind.i64 0]).alloc (Obj.cells #[Value.string { data := #[] }, Value.int IntKind.i64 0] 48)).alloc (Obj.cells #[Value.bool false] 4)
  have k2 := (Blk.new ((w.alloc (Obj.cells #[Value.string mem] 9)).alloc (Obj.cells #[Value.string { data := #[] }, Value.int IntKind.i64 0] 48)) 48 #[Value.string { data := #[] }, Value.int IntKind.i64 0]).alloc (Obj.cells #[Value.bool false] 4)
  have k3 := Blk.new (((w.alloc (Obj.cells #[Value.string mem] 9)).alloc (Obj.cells #[Value.string { data := #[] }, Value.int IntKind.i64 0] 48)).alloc (Obj.cells #[Value.string { data := #[] }, Value.int IntKind.i64 0] 48)) 4 #[Value.bool false]
  simp only [World.size_alloc] at k1 k2 k3
  have HTA := HT _ hB0
  go_wp2_with fail
  refine wp_scope_straight ?_
  go_wp2_with fail
  refine wp_label ?_
  go_wp2_with fail
  have hsz : ((((w.alloc (Obj.cells #[Value.string mem] 9)).alloc (Obj.cells #[Value.string { data := #[] }, Value.int IntKind.i64 0] 48)).alloc (Obj.cells #[Value.string { data := #[] }, Value.int IntKind.i64 0] 48)).alloc (Obj.cells #[Value.bool false] 4)).heap.size = w.heap.size + 4 := by simp
  generalize ((((w.alloc (Obj.cells #[Value.string mem] 9)).alloc (Obj.cells #[Value.string { data := #[] }, Value.int IntKind.i64 0] 48)).alloc (Obj.cells #[Value.string { data := #[] }, Value.int IntKind.i64 0] 48)).alloc (Obj.cells #[Value.bool false] 4)) = w1 at *
  refine HTA.out.mono ?_
  rintro e w2 ⟨bx, r, rfl, hbx, hbs, hr, hb2⟩
  have k0 := k0.later hb2
  have k1 := k1.later hb2
  have k2 := k2.later hb2
  have k3 := k3.later hb2
  have hB := hB0.trans (hb2.mono hB0.size)
  have hseq := vals_any E hl r w1.heap.size bx [w.heap.size + 1 + 1] w2 hr (by intro k hk; simp at hk; omega) hbx
  have hz2 := hb2.size
  clear HT HTA hB0 hr hbx
  go_wp2_with fail
  rename_i KK hKK _ _ _ _
  refine (wpIn_wide (n := 6)).1 (Zr.range_x (gf := 68) (lb := #[.pointer (some ⟨bx, 0, none⟩)]) (encs := encE) (xs := E) (L := [w.heap.size + 1 + 1]) rfl (enters_of Tryz.func68 (by kernel_rfl) rfl) hseq (fun _ _ => rfl)
    (fun i W => Below w.heap.size w W ∧ Blk W w.heap.size 9 #[.string mem] ∧ Blk W (w.heap.size + 1) 48 #[.string { data := #[] }, .int .i64 0] ∧ Blk W (w.heap.size + 1 + 1) 48 #[.string { data := #[] }, .int .i64 0] ∧ Blk W (w.heap.size + 1 + 1 + 1) 4 #[.bool false] ∧ ∀ (j : Nat) (c : En), j < i → E[j]? = some c → c.1 ≠ mem)
    (fun c _ W => c = .exit 0 ∧ ∃ x : En, x ∈ E ∧ x.1 = mem ∧ Below w.heap.size w W ∧ Blk W (w.heap.size + 1) 48 #[.string { data := #[] }, .int .i64 0] ∧ Blk W (w.heap.size + 1 + 1) 48 #[.string x.1, .int .i64 x.2] ∧ Blk W (w.heap.size + 1 + 1 + 1) 4 #[.bool true])
    ?hI ?hIx ?h0 (fun i x a' W => ∃ q, (∃ u11, a' = { tmps := #[fv, .string mem, undef, .pointer (some ⟨w.heap.size, 0, none⟩), .pointer (some ⟨w.heap.size + 1, 0, none⟩), .bool false,
          .pointer (some ⟨w.heap.size + 1 + 1, 0, none⟩), .pointer (some ⟨w.heap.size + 1 + 1 + 1, 0, none⟩), .pointer (some ⟨q, 0, none⟩), fv,
          .func (.func 68) #[] #[.pointer (some ⟨bx, 0, none⟩)], u11, undef, undef, undef, undef, undef, undef, undef], defers := [] }) ∧ Blk W q 48 #[.string x.1, .int .i64 x.2])
    (fun _ _ _ => own_ex fun _ => (own_pure _ _).and (own_blk _ _ _ _)) ?assign ?body ?done ?stop)
  case hI => exact (own_below _ w (by omega)).and ((own_blk _ _ _ _).and ((own_blk _ _ _ _).and ((own_blk _ _ _ _).and ((own_blk _ _ _ _).and (own_pure _ _)))))
  case hIx => exact fun c => (own_pure _ _).and (own_ex fun x => (own_pure _ _).and ((own_pure _ _).and ((own_below _ w (by omega)).and ((own_blk _ _ _ _).and ((own_blk _ _ _ _).and (own_blk _ _ _ _))))))
  case h0 => exact ⟨hB, k0, k1, k2, k3, fun j c hj => by omega⟩
  case assign =>
    rintro l i ⟨xm, xs⟩ W K hx' ⟨hb, q0, q1, q2, q3, hgd⟩ hK
    clear hseq
    unfold encE
    gi_wp2
    refine hK _ _ ((KeepsOthers.alloc _ _).from _) (Zr.KeepC.of_below ((Below.refl _ _).alloc (Nat.le_refl _) _)) ⟨hb.alloc hb.size _, q0.alloc _, q1.alloc _, q2.alloc _, q3.alloc _, hgd⟩ ⟨_, ⟨_, rfl⟩, Blk.new _ _ _⟩
  case body =>
    rintro l i ⟨xm, xs⟩ a' W hx' ⟨hb, q0, q1, q2, q3, hgd⟩ ⟨q, ⟨u11, rfl⟩, q6⟩
    clear hseq
    simp only at q6
    obtain ⟨c1, _⟩ := facts1 q0
    obtain ⟨d0, d1, _⟩ := facts2 q6
    have Q2 := Lib.hid q2
    have Q3 := Lib.hid q3
    have Q1 := Lib.hid q1
    have Q0 := Lib.hid q0
    have HB := Lib.hid hb
    have HG := Lib.hid hgd
    have HX := Lib.hid hx'
    obtain ⟨f0, f1, g0, g1⟩ := facts2 q2
    obtain ⟨e0, e1⟩ := facts1 q3
    clear q0 q1 q2 q3 q6 hgd hx' hb
    by_cases hik : xm = mem
    · have HM := Lib.hid hik
      have hbeq : (xm.toList == mem.toList) = true := by rw [hik]; simp
      clear hik
      gi_wp2
      refine ⟨?_, rfl, (xm, xs), List.mem_of_getElem? HX.out, HM.out, ?_, ?_, ?_, ?_⟩
      · exact (((KeepsOthers.setCell _ _ _).from _).trans ((KeepsOthers.setCell _ _ _).from _)).trans ((KeepsOthers.setCell _ _ _).from _)
      · exact ((HB.out.setCell (p := ⟨w.heap.size + 1 + 1, 0, none⟩) (by simp; omega) _).setCell (p := ⟨w.heap.size + 1 + 1, 1, none⟩) (by simp; omega) _).setCell (p := ⟨w.heap.size + 1 + 1 + 1, 0, none⟩) (by simp; omega) _
      · exact ((Q1.out.setOther _ _ (by omega)).setOther _ _ (by omega)).setOther _ _ (by omega)
      · exact ((Q2.out.set 0 _).set 1 _).setOther _ _ (by omega)
      · exact ((Q3.out.setOther _ _ (by omega)).setOther _ _ (by omega)).set 0 _
    · have hbeq : (xm.toList == mem.toList) = false := by
        rw [Bool.eq_false_iff]
        intro h
        rw [ByteArray.toList_eq, ByteArray.toList_eq] at h
        exact hik (ByteArray.ext (Array.ext' (by simpa using h)))
      have HIK := Lib.hid hik
      clear hik
      gi_wp2
      refine ⟨KeepsFrom.refl _ _, Zr.KeepC.refl _ _, HB.out, Q0.out, Q1.out, Q2.out, Q3.out, fun j c hj hc => ?_⟩
      by_cases e : j = i
      · subst e; rw [HX.out] at hc; cases hc; exact HIK.out
      · exact HG.out j c (by omega) hc
  case done =>
    rintro D W hD ⟨hb, q0, q1, q2, q3, hgd⟩ hK
    clear hseq
    simp only [Exit.inBlock, Exit.then]
    refine hKK _ _ ?_
    go_wp2_with fail
    have HK := Lib.hid hK
    have S0 : W.drew.cell? ⟨w.heap.size + 1 + 1, 0, none⟩ = some (.string { data := #[] }) ∧ W.drew.cell? ⟨w.heap.size + 1 + 1, 1, none⟩ = some (.int .i64 0) ∧ W.drew.cell? ⟨w.heap.size + 1 + 1 + 1, 0, none⟩ = some (.bool false) := ⟨(facts2 q2.drew).1, (facts2 q2.drew).2.1, (facts1 q3.drew).1⟩
    obtain ⟨h0, h1, h2, h3⟩ := facts2 q1
    have q1' : Blk (((W.drew.setCell ⟨w.heap.size + 1, 0, none⟩ (.string { data := #[] })).setCell ⟨w.heap.size + 1, 1, none⟩ (.int .i64 0))) (w.heap.size + 1) 48 #[.string { data := #[] }, .int .i64 0] := (q1.drew.set 0 _).set 1 _
    have S1 : ((W.drew.setCell ⟨w.heap.size + 1, 0, none⟩ (.string { data := #[] })).setCell ⟨w.heap.size + 1, 1, none⟩ (.int .i64 0)).cell? ⟨w.heap.size + 1 + 1, 0, none⟩ = some (.string { data := #[] }) ∧ ((W.drew.setCell ⟨w.heap.size + 1, 0, none⟩ (.string { data := #[] })).setCell ⟨w.heap.size + 1, 1, none⟩ (.int .i64 0)).cell? ⟨w.heap.size + 1 + 1, 1, none⟩ = some (.int .i64 0) ∧ ((W.drew.setCell ⟨w.heap.size + 1, 0, none⟩ (.string { data := #[] })).setCell ⟨w.heap.size + 1, 1, none⟩ (.int .i64 0)).cell? ⟨w.heap.size + 1 + 1 + 1, 0, none⟩ = some (.bool false) :=
      ⟨(facts2 ((q2.drew.setOther _ _ (by omega)).setOther _ _ (by omega))).1, (facts2 ((q2.drew.setOther _ _ (by omega)).setOther _ _ (by omega))).2.1, (facts1 ((q3.drew.setOther _ _ (by omega)).setOther _ _ (by omega))).1⟩
    have HB := Lib.hid hb
    clear q0 q1 q2 q3 hb hK
    refine calm ?_
    refine Sched.region_sched [(0, true), (1, true), (2, false), (3, true)] (fun W => W.cell? ⟨w.heap.size + 1 + 1, 0, none⟩ = some (.string { data := #[] }) ∧ W.cell? ⟨w.heap.size + 1 + 1, 1, none⟩ = some (.int .i64 0) ∧ W.cell? ⟨w.heap.size + 1 + 1 + 1, 0, none⟩ = some (.bool false)) (by kernel_rfl) (by kernel_rfl) rfl (by kernel_rfl) (fun _ _ _ _ _ h => False.elim h) S0 ?_
    intro L hL
    simp only [Sched.picks, List.getElem?_toArray, List.getElem?_cons_zero, List.getElem?_cons_succ] at hL
    subst hL
    repeat (
      refine Sched.sched_take (v := ?_) (by rfl) ?_ ?_
      rotate_left
      (focus (intro w' hSw; (try dsimp only at hSw); go_simp; (try with_reducible rfl); done))
      simp only [Act.put, List.setIfInBounds_toArray, List.set_cons_zero, List.set_cons_succ])
    refine Sched.sched_do (by rfl) fun K' hK => ?_
    go_simp
    refine hK _ _ S1 ?_
    clear hK K'
    repeat (
      refine Sched.sched_take (v := ?_) (by rfl) ?_ ?_
      rotate_left
      (focus (intro w' hSw; (try dsimp only at hSw); go_simp; (try with_reducible rfl); done))
      simp only [Act.put, List.setIfInBounds_toArray, List.set_cons_zero, List.set_cons_succ])
    refine Sched.sched_nil ?_
    unfold Calm
    simp only [Exit.then]
    go_wp2_with fail
    have hD' : (((W.setCell ⟨w.heap.size + 1, 0, none⟩ (.string { data := #[] })).setCell ⟨w.heap.size + 1, 1, none⟩ (.int .i64 0)).drew).heap[D]? = some (.deferred (some [])) :=
      ((Below.heap_setCell _ _ _ _ (by simp; omega)).trans (Below.heap_setCell _ _ _ _ (by simp; omega))).trans HK.out
    show bodyPostM Fence.wide 6 Tryz.prog Tryz.f60 (fun e w' => (∃ m' s', e = .returned (.tuple #[.agg #[.string m', .int .i64 s'], .bool (decide (∃ x ∈ E, x.1 = mem))])) ∧ Below w.heap.size w w') .ret _ _
    have qf := (show Blk (((W.setCell ⟨w.heap.size + 1, 0, none⟩ (.string { data := #[] })).setCell ⟨w.heap.size + 1, 1, none⟩ (.int .i64 0)).drew) (w.heap.size + 1) 48 #[.string { data := #[] }, .int .i64 0] from q1').put' hD' (.deferred none)
    have bf := below_put (D := D) (below_drewn ((HB.out.setCell (p := ⟨w.heap.size + 1, 0, none⟩) (by simp) (.string { data := #[] })).setCell (p := ⟨w.heap.size + 1, 1, none⟩) (by simp) (.int .i64 0))) (by omega) (.deferred none)
    refine Zr.leave rfl hD' (resE Tryz.results60 rfl rfl qf) ⟨⟨{ data := #[] }, 0, ?_⟩, bf⟩
    rw [show decide (∃ x ∈ E, x.1 = mem) = false from decide_eq_false (by
      rintro ⟨x, hx, hxm⟩
      obtain ⟨j, hj, rfl⟩ := List.mem_iff_getElem.1 hx
      exact hgd j _ hj (List.getElem?_eq_getElem hj) hxm)]
    rfl
  case stop =>
    rintro D c j W hD ⟨rfl, ⟨xm, xs⟩, hx, hxm, hb, q1, q2, q3⟩ hK
    simp only at hxm q2
    subst hxm
    refine wpIn_wide.2 ?_
    clear hseq
    go_wp2
    have HK := Lib.hid hK
    have S0 : W.drew.cell? ⟨w.heap.size + 1 + 1, 0, none⟩ = some (.string xm) ∧ W.drew.cell? ⟨w.heap.size + 1 + 1, 1, none⟩ = some (.int .i64 xs) ∧ W.drew.cell? ⟨w.heap.size + 1 + 1 + 1, 0, none⟩ = some (.bool true) := ⟨(facts2 q2.drew).1, (facts2 q2.drew).2.1, (facts1 q3.drew).1⟩
    obtain ⟨h0, h1, h2, h3⟩ := facts2 q1
    have q1' : Blk (((W.drew.setCell ⟨w.heap.size + 1, 0, none⟩ (.string xm)).setCell ⟨w.heap.size + 1, 1, none⟩ (.int .i64 xs))) (w.heap.size + 1) 48 #[.string xm, .int .i64 xs] := (q1.drew.set 0 _).set 1 _
    have S1 : ((W.drew.setCell ⟨w.heap.size + 1, 0, none⟩ (.string xm)).setCell ⟨w.heap.size + 1, 1, none⟩ (.int .i64 xs)).cell? ⟨w.heap.size + 1 + 1, 0, none⟩ = some (.string xm) ∧ ((W.drew.setCell ⟨w.heap.size + 1, 0, none⟩ (.string xm)).setCell ⟨w.heap.size + 1, 1, none⟩ (.int .i64 xs)).cell? ⟨w.heap.size + 1 + 1, 1, none⟩ = some (.int .i64 xs) ∧ ((W.drew.setCell ⟨w.heap.size + 1, 0, none⟩ (.string xm)).setCell ⟨w.heap.size + 1, 1, none⟩ (.int .i64 xs)).cell? ⟨w.heap.size + 1 + 1 + 1, 0, none⟩ = some (.bool true) :=
      ⟨(facts2 ((q2.drew.setOther _ _ (by omega)).setOther _ _ (by omega))).1, (facts2 ((q2.drew.setOther _ _ (by omega)).setOther _ _ (by omega))).2.1, (facts1 ((q3.drew.setOther _ _ (by omega)).setOther _ _ (by omega))).1⟩
    have HB := Lib.hid hb
    clear q1 q2 q3 hb hK
    refine calm ?_
    refine Sched.region_sched [(0, true), (1, true), (2, false), (3, true)] (fun W => W.cell? ⟨w.heap.size + 1 + 1, 0, none⟩ = some (.string xm) ∧ W.cell? ⟨w.heap.size + 1 + 1, 1, none⟩ = some (.int .i64 xs) ∧ W.cell? ⟨w.heap.size + 1 + 1 + 1, 0, none⟩ = some (.bool true)) (by kernel_rfl) (by kernel_rfl) rfl (by kernel_rfl) (fun _ _ _ _ _ h => False.elim h) S0 ?_
    intro L hL
    simp only [Sched.picks, List.getElem?_toArray, List.getElem?_cons_zero, List.getElem?_cons_succ] at hL
    subst hL
    repeat (
      refine Sched.sched_take (v := ?_) (by rfl) ?_ ?_
      rotate_left
      (focus (intro w' hSw; (try dsimp only at hSw); go_simp; (try with_reducible rfl); done))
      simp only [Act.put, List.setIfInBounds_toArray, List.set_cons_zero, List.set_cons_succ])
    refine Sched.sched_do (by rfl) fun K' hK => ?_
    go_simp
    refine hK _ _ S1 ?_
    clear hK K'
    repeat (
      refine Sched.sched_take (v := ?_) (by rfl) ?_ ?_
      rotate_left
      (focus (intro w' hSw; (try dsimp only at hSw); go_simp; (try with_reducible rfl); done))
      simp only [Act.put, List.setIfInBounds_toArray, List.set_cons_zero, List.set_cons_succ])
    refine Sched.sched_nil ?_
    unfold Calm
    simp only [Exit.then]
    go_wp2_with fail
    have hD' : (((W.setCell ⟨w.heap.size + 1, 0, none⟩ (.string xm)).setCell ⟨w.heap.size + 1, 1, none⟩ (.int .i64 xs)).drew).heap[D]? = some (.deferred (some [])) :=
      ((Below.heap_setCell _ _ _ _ (by simp; omega)).trans (Below.heap_setCell _ _ _ _ (by simp; omega))).trans HK.out
    show bodyPostM Fence.wide 6 Tryz.prog Tryz.f60 (fun e w' => (∃ m' s', e = .returned (.tuple #[.agg #[.string m', .int .i64 s'], .bool (decide (∃ x ∈ E, x.1 = xm))])) ∧ Below w.heap.size w w') .ret _ _
    have qf := (show Blk (((W.setCell ⟨w.heap.size + 1, 0, none⟩ (.string xm)).setCell ⟨w.heap.size + 1, 1, none⟩ (.int .i64 xs)).drew) (w.heap.size + 1) 48 #[.string xm, .int .i64 xs] from q1').put' hD' (.deferred none)
    have bf := below_put (D := D) (below_drewn ((HB.out.setCell (p := ⟨w.heap.size + 1, 0, none⟩) (by simp) (.string xm)).setCell (p := ⟨w.heap.size + 1, 1, none⟩) (by simp) (.int .i64 xs))) (by omega) (.deferred none)
    refine Zr.leave rfl hD' (resE Tryz.results60 rfl rfl qf) ⟨⟨xm, xs, ?_⟩, bf⟩
    rw [show decide (∃ x ∈ E, x.1 = xm) = true from decide_eq_true ⟨(xm, xs), hx, rfl⟩]
    rfl


variable {w w' w1 w2 : World} {s b l p q sd c : Nat} {D D1 : Nat → Prop} {L L1 : List Nd} {m : ByteArray → Option Int} {n : Dc.Sh} {le lm : Int} {E : List En}
theorem ex_has (E : List En) (k : ByteArray) : decide (∃ x ∈ E, x.1 = k) = hasE E k := by
  rw [Bool.eq_iff_iff, decide_eq_true_iff, hasE_iff]
  constructor
  · rintro ⟨⟨a, s⟩, hx, rfl⟩
    exact ⟨s, hx⟩
  · rintro ⟨s, hs⟩
    exact ⟨_, hs, rfl⟩
set_option maxRecDepth 100000 in
theorem full_l4 (h : LSet w s l p q D L m n le lm sd c E) (h4 : E.length = 400) (k : ByteArray) : Calls Tryz.prog 49 #[.pointer (some ⟨s, 0, none⟩), .string k] w fun e w' => e = .returned (.bool (!hasE E k)) ∧ Below w.heap.size w w' := by
  obtain ⟨⟨e0, _⟩, _⟩ := facts4 h.blk
  have HL := Lib.hid (len_any p L rfl h.li.ls.sk)
  rw [h.len] at HL
  have hme := meth_len (facts2 h.li.blk).1
  have hln := h.lenN
  have HF := Lib.hid (find_val (.iface 106 (.pointer (some ⟨l, 0, none⟩))) E (by omega) k w fun W hb => Lib.hid (by have := l_thru (h.li.later hb) hln; rw [h.en] at this; exact this))
  rw [ex_has] at HF
  have h1 : ¬ (E.length : Int) < 400 := by omega
  clear h hln
  go_enter Tryz.func49, Tryz.ntmps49
  go_wp2_with fail
  refine HL.out.mono ?_
  rintro e w1 ⟨rfl, rfl⟩
  go_wp2_with fail
  refine HF.out.mono ?_
  rintro e w1 ⟨⟨m', s', rfl⟩, hb⟩
  have HB := Lib.hid hb
  clear hb
  go_wp2_with fail
  go_ret
  exact ⟨rfl, HB.out.alloc HB.out.size _⟩
theorem full_lt (h : LSet w s l p q D L m n le lm sd c E) (h4 : E.length ≤ 400) (k : ByteArray) (hh : E.length < 400 ∨ hasE E k = true) : Calls Tryz.prog 49 #[.pointer (some ⟨s, 0, none⟩), .string k] w fun e w' => e = .returned (.bool false) ∧ Below w.heap.size w w' := by
  by_cases h5 : E.length < 400
  · exact full_l h h5 k
  · have := full_l4 h (by omega) k
    rw [hh.resolve_left h5] at this
    exact this
set_option maxRecDepth 100000 in
set_option maxHeartbeats 2000000 in
theorem ls_add_there4 (h : LSet w s l p q D L m n le lm sd c E) (h4 : E.length ≤ 400) (hc : c + 1 ≤ 10000) (k : ByteArray) (sc lv : Int) (hk : k.size ≤ 64) (hs : Pk.scoreOk sc) (hlv : 1 ≤ lv ∧ lv ≤ 32) {i : Nat} (hq : whE E k = some i) :
    Calls Tryz.prog 31 #[.pointer (some ⟨s, 0, none⟩), .string k, .int .i64 sc, .int .i64 lv] w fun e w' => e = .returned (.tuple #[.bool false, .int .i64 0]) ∧ ∃ D1 L1 m1 n1, LSet w' s l p q D1 L1 m1 n1 le lm sd (c + 1) (addE E k sc) ∧ LStep w w' l p L D L1 D1 := by
  have HFULL := Lib.hid (full_lt h h4 k (.inr (wh_has2 hq)))
  have hmg := map_get h.map k
  rw [hq] at hmg
  obtain ⟨v, hv, hi⟩ := hmg
  have hnc := h.n
  have hcap := h.good.cap
  have HSC := fun W (hb : Below w.heap.size w W) => Lib.hid (l_score (h.later hb).li (by omega) k (by omega))
  rw [hv] at HSC
  have HLS := fun W W' (hb : Below w.heap.size w W) (hn : Dc.IsNow D W q sd m n.step1 W') => Lib.hid (And.intro ((h.later hb).dict hn (by rw [step1_c]; exact hnc)) ((show LStep w W l p L D L D from LStep.below hb).trans (LStep.dict hn)))
  have HDEL := fun W D1 n1 (h1 : LSet W s l p q D1 L m n1 le lm sd c E) => Lib.hid (l_delete h1.li h1.lenN (by rw [h1.en]; exact h1.good.dist) (k, v) (by rw [h1.en]; exact List.mem_of_getElem? hi))
  have HSB := fun W (hb : Below w.heap.size w W) => Lib.hid (facts4 (h.blk.later hb)).1.1
  have HPUT := fun W D3 L3 n3 (hblk : Blk W s 79 (SetC (.iface 106 (.pointer (some ⟨l, 0, none⟩))) le lm sd)) (hL : LAt W l p q D3 sd L3 m n3) (he : L3.map en = rmE E k) (hn : n3.n ≤ c) v (hr : Row W 0 v [(k, sc)]) => Lib.hid (ls_put hblk hL k sc he h.map hn h.good hc hk hs lv hlv v hr)
  have h1 : ¬ (64 : Int) < k.size := by omega
  have h2 : ¬ lv < 1 := by omega
  have h3 : ¬ 32 < lv := by omega
  clear h hq hv hi hnc hcap hk hs hlv hc h4
  go_enter Tryz.func31, Tryz.ntmps31
  go_wp2_with fail
  refine HFULL.out.mono ?_
  rintro e w1 ⟨rfl, hb⟩
  have HSC1 := HSC w1 hb
  have HLS1 := HLS w1
  have e0 := (HSB w1 hb).out
  have HB1 := Lib.hid hb
  clear hb HSC HFULL HSB HLS
  go_wp2_with fail
  refine HSC1.out.mono ?_
  rintro e w2 ⟨rfl, hn⟩
  obtain ⟨hL2, hs2⟩ := (HLS1 w2 HB1.out hn).out
  have e2 := (facts4 hL2.blk).1.1
  have hme := meth_delete (facts2 hL2.li.blk).1
  have HDEL2 := HDEL w2 _ _ hL2
  have HL2 := Lib.hid hL2
  have HS2 := Lib.hid hs2
  clear hn hL2 hs2 HSC1 HLS1 HDEL e0
  go_wp2_with fail
  refine HDEL2.out.mono ?_
  rintro e w3 ⟨rfl, L3, he3, hL3, hs3⟩
  rw [HL2.out.en] at he3
  have hblk3 := HL2.out.blk_step hs3
  have e3 := (facts4 hblk3).1.1
  have hb4 := alloc_below w3 (.cells #[.string k, .int .i64 sc] 48)
  have HPUT4 := HPUT _ _ L3 _ (hblk3.later hb4) (hL3.later hb4) he3 HL2.out.n _ (row_one w3 k sc)
  have HS4 := Lib.hid ((HS2.out.trans hs3).trans (LStep.below hb4))
  clear he3 hL3 hs3 hblk3 hb4 HPUT HDEL2 e2 hme HL2
  go_wp2_with fail
  refine HPUT4.out.mono ?_
  rintro e w5 ⟨rfl, D5, L5, m5, n5, h5, hs5⟩
  have HR := Lib.hid (show ∃ D1 L1 m1 n1, LSet w5 s l p q D1 L1 m1 n1 le lm sd (c + 1) (addE E k sc) ∧ LStep w w5 l p L D L1 D1 from ⟨D5, L5, m5, n5, h5, HS4.out.trans hs5⟩)
  clear h5 hs5 HPUT4
  go_wp2_with fail
  go_ret2
  exact ⟨rfl, HR.out⟩

set_option maxRecDepth 100000 in
theorem ls_add_full (h : LSet w s l p q D L m n le lm sd c E) (h4 : E.length = 400) (k : ByteArray) (sc lv : Int) (hk : k.size ≤ 64) (hlv : 1 ≤ lv ∧ lv ≤ 32) (hq : hasE E k = false) :
    Calls Tryz.prog 31 #[.pointer (some ⟨s, 0, none⟩), .string k, .int .i64 sc, .int .i64 lv] w fun e w' => e = .returned (.tuple #[.bool false, .int .i64 51]) ∧ Below w.heap.size w w' := by
  have HFULL := Lib.hid (full_l4 h h4 k)
  rw [hq] at HFULL
  have h1 : ¬ (64 : Int) < k.size := by omega
  have h2 : ¬ lv < 1 := by omega
  have h3 : ¬ 32 < lv := by omega
  clear h hq hk hlv h4
  go_enter Tryz.func31, Tryz.ntmps31
  go_wp2_with fail
  refine HFULL.out.mono ?_
  rintro e w1 ⟨rfl, hb⟩
  go_wp2_with fail
  go_ret2
  exact ⟨rfl, hb⟩
/-- Add at four hundred: a member that is there, one that is not. -/
theorem set_add_there4 {S : Nat → Prop} {isL : Bool} (h : SetIs w s S isL le lm c E) (h4 : E.length = 400) (hc : c + 1 ≤ 10000) (k : ByteArray) (sc lv : Int) (hk : k.size ≤ 64) (hs : Pk.scoreOk sc) (hlv : 1 ≤ lv ∧ lv ≤ 32) (hq : hasE E k = true) :
    Calls Tryz.prog 31 #[.pointer (some ⟨s, 0, none⟩), .string k, .int .i64 sc, .int .i64 lv] w fun e w' => e = .returned (.tuple #[.bool false, .int .i64 0]) ∧ SetNow w s S isL le lm (c + 1) (addE E k sc) w' := by
  obtain ⟨sd, ⟨rfl, b, h, hS⟩ | ⟨rfl, l, p, q, D, L, m, n, h, hS⟩⟩ := h
  · have h1 := h.few
    have h2 := h.good.le
    omega
  · cases hw : whE E k with
    | none => rw [wh_has hw] at hq; cases hq
    | some i => exact (ls_add_there4 h (by omega) hc k sc lv hk hs hlv hw).mono fun _ _ ⟨he, D1, L1, m1, n1, h1, hf⟩ => ⟨he, SetNow.list hS h1 hf⟩
theorem set_add_full {S : Nat → Prop} {isL : Bool} (h : SetIs w s S isL le lm c E) (h4 : E.length = 400) (k : ByteArray) (sc lv : Int) (hk : k.size ≤ 64) (hlv : 1 ≤ lv ∧ lv ≤ 32) (hq : hasE E k = false) :
    Calls Tryz.prog 31 #[.pointer (some ⟨s, 0, none⟩), .string k, .int .i64 sc, .int .i64 lv] w fun e w' => e = .returned (.tuple #[.bool false, .int .i64 51]) ∧ Below w.heap.size w w' := by
  obtain ⟨sd, ⟨rfl, b, h, hS⟩ | ⟨rfl, l, p, q, D, L, m, n, h, hS⟩⟩ := h
  · have h1 := h.few
    have h2 := h.good.le
    omega
  · exact ls_add_full h h4 k sc lv hk hlv hq
end Go.Proofs.YtpaphfofjfjdlaaGreat
