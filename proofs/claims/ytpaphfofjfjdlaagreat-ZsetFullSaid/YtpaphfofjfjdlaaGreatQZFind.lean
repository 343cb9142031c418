/- Find: a member's entry, found by going through all of them. -/
import Derived.Test.YtpaphfofjfjdlaaGreatQZThru
namespace Go.Proofs.YtpaphfofjfjdlaaGreat
open Go.RowKit Go.Shelf Sk
attribute [local go_sem] Oper.semAt_some

theorem below_drewn {w W : World} (h : Below w.heap.size w W) : Below w.heap.size w W.drew := h.trans ((drewB W 1).mono h.size)
theorem resE {fn : Func} {tmps : Array Value} {W : World} {b : Nat} {m : ByteArray} {sc : Int} {x : Value} (hr : fn.results = #[.cell 4 48, .tmp 5]) (hk : tmps.getD 4 undef = .pointer (some ⟨b, 0, none⟩)) (hx : tmps.getD 5 undef = x) (hB : Blk W b 48 #[.string m, .int .i64 sc]) :
    (results fn tmps).run Tryz.prog W = .ok (.tuple #[.agg #[.string m, .int .i64 sc], x]) W := by
  obtain ⟨e0, e1, _, _⟩ := facts2 hB
  have hk2 : tmps[4]?.getD undef = .pointer (some ⟨b, 0, none⟩) := by rw [← Array.getD_eq_getD_getElem?]; exact hk
  have hx2 : tmps[5]?.getD undef = x := by rw [← Array.getD_eq_getD_getElem?]; exact hx
  simp [results, hr, hk2, hx2, go_sem, e0, e1]
/-- A post that takes no panic. -/
def Calm (Q : Exit → Act → World → Prop) : Exit → Act → World → Prop
  | .panic _, _, _ => False
  | e, a, w => Q e a w
theorem calm {P : Program} {c : Code} {Q : Exit → Act → World → Prop} {a : Act} {w : World} (h : c.wp P (Calm Q) a w) : c.wp P Q a w :=
  Code.wp_mono (fun e a w h => by cases e <;> first | exact h | exact False.elim h) h
set_option maxRecDepth 100000 in
set_option maxHeartbeats 4000000 in
theorem find_walk (fv : Value) (E : List En) (hl : E.length ≤ 1000000000) (mem : ByteArray) (w : World) (HT : ∀ W, Below w.heap.size w W → Hid (Calls Tryz.prog 46 #[fv] W (Thru W E))) :
    Calls Tryz.prog 60 #[fv, .string mem] w fun e w' => (∃ v, e = .returned (.tuple #[v, .bool (decide (∃ x ∈ E, x.1 = mem))])) ∧ Below w.heap.size w w' := by
  refine (callsIn_wide (n := 6)).1 (callsIn_of_wp_marks Tryz.func60 rfl trivial ?_ rfl)
  refine wpIn_wide.2 ?_
  simp only [Tryz.ntmps60, List.size_toArray, List.length_cons, List.length_nil, Nat.reduceAdd, Nat.reduceSub, Array.replicate_succ, Array.replicate_zero, List.push_toArray, List.append_toArray, List.nil_append, List.cons_append]
  have hB0 : Below w.heap.size w ((((w.alloc (Obj.cells #[Value.string mem] 9)).alloc (Obj.cells #[Value.string { data := #[] }, Value.int IntKind.i64 0] 48)).alloc (Obj.cells #[Value.string { data := #[] }, Value.int IntKind.i64 0] 48)).alloc (Obj.cells #[Value.bool false] 4)) :=
    ((((Below.refl w.heap.size w).alloc (Nat.le_refl _) _).alloc (by simp) _).alloc (by simp; omega) _).alloc (by simp; omega) _
  have k0 := (((Blk.new w 9 #[.string mem]).alloc (Obj.cells #[Value.string { data := #[] }, Value.int IntKind.i64 0] 48)).alloc (Obj.cells #[Value.string { data := #[] }, Value.int IntKind.i64 0] 48)).alloc (Obj.cells #[Value.bool false] 4)
  have k1 := ((Blk.new (w.alloc (Obj.cells #[Value.string mem] 9)) 48 #[Value.string { data := #[] }, Value.int IntKind.i64 0]).alloc (Obj.cells #[Value.string { data := #[] }, Value.int IntKind.i64 0] 48)).alloc (Obj.cells #[Value.bool false] 4)
  have k2 := (Blk.new ((w.alloc (Obj.cells #[Value.string mem] 9)).alloc (Obj.cells #[Value.string { data := #[] }, Value.int IntKind.i64 0] 48)) 48 #[Value.string { data := #[] }, Value.int IntKind.i64 0]).alloc (Obj.cells #[Value.bool false] 4)
  have k3 := Blk.new (((w.alloc (Obj.cells #[Value.string mem] 9)).alloc (Obj.cells #[Value.string { data := #[] }, Value.int IntKind.i64 0] 48)).alloc (Obj.cells #[Value.string { data := #[] }, Value.int IntKind.i64 0] 48)) 4 #[Value.bool false]
  simp only [World.size_alloc] at k1 k2 k3
  have HTA := HT _ hB0
  go_wp2_with fail
  refine wp_scope_straight ?_
  go_wp2_with fail
  refine wp_label ?_
  go_wp2_with fail
  have hsz : ((((w.alloc (Obj.cells #[Value.string mem] 9)).alloc (Obj.cells #[Value.string { data := #[] }, Value.int IntKind.i64 0] 48)).alloc (Obj.cells #[Value.string { data := #[] }, Value.int IntKind.i64 0] 48)).alloc (Obj.cells #[Value.bool false] 4)).heap.size = w.heap.size + 4 := by simp
  generalize ((((w.alloc (Obj.cells #[Value.string mem] 9)).alloc (Obj.cells #[Value.string { data := #[] }, Value.int IntKind.i64 0] 48)).alloc (Obj.cells #[Value.string { data := #[] }, Value.int IntKind.i64 0] 48)).alloc (Obj.cells #[Value.bool false] 4)) = w1 at *
  refine HTA.out.mono ?_
  rintro e w2 ⟨bx, r, rfl, hbx, hbs, hr, hb2⟩
  have k0 := k0.later hb2
  have k1 := k1.later hb2
  have k2 := k2.later hb2
  have k3 := k3.later hb2
  have hB := hB0.trans (hb2.mono hB0.size)
  have hseq := vals_any E hl r w1.heap.size bx [w.heap.size + 1 + 1] w2 hr (by intro k hk; simp at hk; omega) hbx
  have hz2 := hb2.size
  clear HT HTA hB0 hr hbx
  go_wp2_with fail
  rename_i KK hKK _ _ _ _
  refine (wpIn_wide (n := 6)).1 (Zr.range_x (gf := 68) (lb := #[.pointer (some ⟨bx, 0, none⟩)]) (encs := encE) (xs := E) (L := [w.heap.size + 1 + 1]) rfl (enters_of Tryz.func68 (by kernel_rfl) rfl) hseq (fun _ _ => rfl)
    (fun i W => Below w.heap.size w W ∧ Blk W w.heap.size 9 #[.string mem] ∧ Blk W (w.heap.size + 1) 48 #[.string { data := #[] }, .int .i64 0] ∧ Blk W (w.heap.size + 1 + 1) 48 #[.string { data := #[] }, .int .i64 0] ∧ Blk W (w.heap.size + 1 + 1 + 1) 4 #[.bool false] ∧ ∀ (j : Nat) (c : En), j < i → E[j]? = some c → c.1 ≠ mem)
    (fun c _ W => c = .exit 0 ∧ ∃ x : En, x ∈ E ∧ x.1 = mem ∧ Below w.heap.size w W ∧ Blk W (w.heap.size + 1) 48 #[.string { data := #[] }, .int .i64 0] ∧ Blk W (w.heap.size + 1 + 1) 48 #[.string x.1, .int .i64 x.2] ∧ Blk W (w.heap.size + 1 + 1 + 1) 4 #[.bool true])
    ?hI ?hIx ?h0 (fun i x a' W => ∃ q, (∃ u11, a' = { tmps := #[fv, .string mem, undef, .pointer (some ⟨w.heap.size, 0, none⟩), .pointer (some ⟨w.heap.size + 1, 0, none⟩), .bool false,
          .pointer (some ⟨w.heap.size + 1 + 1, 0, none⟩), .pointer (some ⟨w.heap.size + 1 + 1 + 1, 0, none⟩), .pointer (some ⟨q, 0, none⟩), fv,
          .func (.func 68) #[] #[.pointer (some ⟨bx, 0, none⟩)], u11, undef, undef, undef, undef, undef, undef, undef], defers := [] }) ∧ Blk W q 48 #[.string x.1, .int .i64 x.2])
    (fun _ _ _ => own_ex fun _ => (own_pure _ _).and (own_blk _ _ _ _)) ?assign ?body ?done ?stop)
  case hI => exact (own_below _ w (by omega)).and ((own_blk _ _ _ _).and ((own_blk _ _ _ _).and ((own_blk _ _ _ _).and ((own_blk _ _ _ _).and (own_pure _ _)))))
  case hIx => exact fun c => (own_pure _ _).and (own_ex fun x => (own_pure _ _).and ((own_pure _ _).and ((own_below _ w (by omega)).and ((own_blk _ _ _ _).and ((own_blk _ _ _ _).and (own_blk _ _ _ _))))))
  case h0 => exact ⟨hB, k0, k1, k2, k3, fun j c hj => by omega⟩
  case assign =>
    rintro l i ⟨xm, xs⟩ W K hx' ⟨hb, q0, q1, q2, q3, hgd⟩ hK
    clear hseq
    unfold encE
    gi_wp2
    refine hK _ _ ((KeepsOthers.alloc _ _).from _) (Zr.KeepC.of_below ((Below.refl _ _).alloc (Nat.le_refl _) _)) ⟨hb.alloc hb.size _, q0.alloc _, q1.alloc _, q2.alloc _, q3.alloc _, hgd⟩ ⟨_, ⟨_, rfl⟩, Blk.new _ _ _⟩
  case body =>
    rintro l i ⟨xm, xs⟩ a' W hx' ⟨hb, q0, q1, q2, q3, hgd⟩ ⟨q, ⟨u11, rfl⟩, q6⟩
    clear hseq
    simp only at q6
    obtain ⟨c1, _⟩ := facts1 q0
    obtain ⟨d0, d1, _⟩ := facts2 q6
    have Q2 := Lib.hid q2
    have Q3 := Lib.hid q3
    have Q1 := Lib.hid q1
    have Q0 := Lib.hid q0
    have HB := Lib.hid hb
    have HG := Lib.hid hgd
    have HX := Lib.hid hx'
    obtain ⟨f0, f1, g0, g1⟩ := facts2 q2
    obtain ⟨e0, e1⟩ := facts1 q3
    clear q0 q1 q2 q3 q6 hgd hx' hb
    by_cases hik : xm = mem
    · have HM := Lib.hid hik
      have hbeq : (xm.toList == mem.toList) = true := by rw [hik]; simp
      clear hik
      gi_wp2
      refine ⟨?_, rfl, (xm, xs), List.mem_of_getElem? HX.out, HM.out, ?_, ?_, ?_, ?_⟩
      · exact (((KeepsOthers.setCell _ _ _).from _).trans ((KeepsOthers.setCell _ _ _).from _)).trans ((KeepsOthers.setCell _ _ _).from _)
      · exact ((HB.out.setCell (p := ⟨w.heap.size + 1 + 1, 0, none⟩) (by simp; omega) _).setCell (p := ⟨w.heap.size + 1 + 1, 1, none⟩) (by simp; omega) _).setCell (p := ⟨w.heap.size + 1 + 1 + 1, 0, none⟩) (by simp; omega) _
      · exact ((Q1.out.setOther _ _ (by omega)).setOther _ _ (by omega)).setOther _ _ (by omega)
      · exact ((Q2.out.set 0 _).set 1 _).setOther _ _ (by omega)
      · exact ((Q3.out.setOther _ _ (by omega)).setOther _ _ (by omega)).set 0 _
    · have hbeq : (xm.toList == mem.toList) = false := by
        rw [Bool.eq_false_iff]
        intro h
        rw [ByteArray.toList_eq, ByteArray.toList_eq] at h
        exact hik (ByteArray.ext (Array.ext' (by simpa using h)))
      have HIK := Lib.hid hik
      clear hik
      gi_wp2
      refine ⟨KeepsFrom.refl _ _, Zr.KeepC.refl _ _, HB.out, Q0.out, Q1.out, Q2.out, Q3.out, fun j c hj hc => ?_⟩
      by_cases e : j = i
      · subst e; rw [HX.out] at hc; cases hc; exact HIK.out
      · exact HG.out j c (by omega) hc
  case done =>
    rintro D W hD ⟨hb, q0, q1, q2, q3, hgd⟩ hK
    clear hseq
    simp only [Exit.inBlock, Exit.then]
    refine hKK _ _ ?_
    go_wp2_with fail
    have HK := Lib.hid hK
    have S0 : W.drew.cell? ⟨w.heap.size + 1 + 1, 0, none⟩ = some (.string { data := #[] }) ∧ W.drew.cell? ⟨w.heap.size + 1 + 1, 1, none⟩ = some (.int .i64 0) ∧ W.drew.cell? ⟨w.heap.size + 1 + 1 + 1, 0, none⟩ = some (.bool false) := ⟨(facts2 q2.drew).1, (facts2 q2.drew).2.1, (facts1 q3.drew).1⟩
    obtain ⟨h0, h1, h2, h3⟩ := facts2 q1
    have q1' : Blk (((W.drew.setCell ⟨w.heap.size + 1, 0, none⟩ (.string { data := #[] })).setCell ⟨w.heap.size + 1, 1, none⟩ (.int .i64 0))) (w.heap.size + 1) 48 #[.string { data := #[] }, .int .i64 0] := (q1.drew.set 0 _).set 1 _
    have S1 : ((W.drew.setCell ⟨w.heap.size + 1, 0, none⟩ (.string { data := #[] })).setCell ⟨w.heap.size + 1, 1, none⟩ (.int .i64 0)).cell? ⟨w.heap.size + 1 + 1, 0, none⟩ = some (.string { data := #[] }) ∧ ((W.drew.setCell ⟨w.heap.size + 1, 0, none⟩ (.string { data := #[] })).setCell ⟨w.heap.size + 1, 1, none⟩ (.int .i64 0)).cell? ⟨w.heap.size + 1 + 1, 1, none⟩ = some (.int .i64 0) ∧ ((W.drew.setCell ⟨w.heap.size + 1, 0, none⟩ (.string { data := #[] })).setCell ⟨w.heap.size + 1, 1, none⟩ (.int .i64 0)).cell? ⟨w.heap.size + 1 + 1 + 1, 0, none⟩ = some (.bool false) :=
      ⟨(facts2 ((q2.drew.setOther _ _ (by omega)).setOther _ _ (by omega))).1, (facts2 ((q2.drew.setOther _ _ (by omega)).setOther _ _ (by omega))).2.1, (facts1 ((q3.drew.setOther _ _ (by omega)).setOther _ _ (by omega))).1⟩
    have HB := Lib.hid hb
    clear q0 q1 q2 q3 hb hK
    refine calm ?_
    refine Sched.region_sched [(0, true), (1, true), (2, false), (3, true)] (fun W => W.cell? ⟨w.heap.size + 1 + 1, 0, none⟩ = some (.string { data := #[] }) ∧ W.cell? ⟨w.heap.size + 1 + 1, 1, none⟩ = some (.int .i64 0) ∧ W.cell? ⟨w.heap.size + 1 + 1 + 1, 0, none⟩ = some (.bool false)) (by kernel_rfl) (by kernel_rfl) rfl (by kernel_rfl) (fun _ _ _ _ _ h => False.elim h) S0 ?_
    intro L hL
    simp only [Sched.picks, List.getElem?_toArray, List.getElem?_cons_zero, List.getElem?_cons_succ] at hL
    subst hL
    repeat (
      refine Sched.sched_take (v := ?_) (by rfl) ?_ ?_
      rotate_left
      (focus (intro w' hSw; (try dsimp only at hSw); go_simp; (try with_reducible rfl); done))
      simp only [Act.put, List.setIfInBounds_toArray, List.set_cons_zero, List.set_cons_succ])
    refine Sched.sched_do (by rfl) fun K' hK => ?_
    go_simp
    refine hK _ _ S1 ?_
    clear hK K'
    repeat (
      refine Sched.sched_take (v := ?_) (by rfl) ?_ ?_
      rotate_left
      (focus (intro w' hSw; (try dsimp only at hSw); go_simp; (try with_reducible rfl); done))
      simp only [Act.put, List.setIfInBounds_toArray, List.set_cons_zero, List.set_cons_succ])
    refine Sched.sched_nil ?_
    unfold Calm
    simp only [Exit.then]
    go_wp2_with fail
    have hD' : (((W.setCell ⟨w.heap.size + 1, 0, none⟩ (.string { data := #[] })).setCell ⟨w.heap.size + 1, 1, none⟩ (.int .i64 0)).drew).heap[D]? = some (.deferred (some [])) :=
      ((Below.heap_setCell _ _ _ _ (by simp; omega)).trans (Below.heap_setCell _ _ _ _ (by simp; omega))).trans HK.out
    show bodyPostM Fence.wide 6 Tryz.prog Tryz.f60 (fun e w' => (∃ v, e = .returned (.tuple #[v, .bool (decide (∃ x ∈ E, x.1 = mem))])) ∧ Below w.heap.size w w') .ret _ _
    have qf := (show Blk (((W.setCell ⟨w.heap.size + 1, 0, none⟩ (.string { data := #[] })).setCell ⟨w.heap.size + 1, 1, none⟩ (.int .i64 0)).drew) (w.heap.size + 1) 48 #[.string { data := #[] }, .int .i64 0] from q1').put' hD' (.deferred none)
    have bf := below_put (D := D) (below_drewn ((HB.out.setCell (p := ⟨w.heap.size + 1, 0, none⟩) (by simp) (.string { data := #[] })).setCell (p := ⟨w.heap.size + 1, 1, none⟩) (by simp) (.int .i64 0))) (by omega) (.deferred none)
    refine Zr.leave rfl hD' (resE Tryz.results60 rfl rfl qf) ⟨⟨.agg #[.string { data := #[] }, .int .i64 0], ?_⟩, bf⟩
    rw [show decide (∃ x ∈ E, x.1 = mem) = false from decide_eq_false (by
      rintro ⟨x, hx, hxm⟩
      obtain ⟨j, hj, rfl⟩ := List.mem_iff_getElem.1 hx
      exact hgd j _ hj (List.getElem?_eq_getElem hj) hxm)]
    rfl
  case stop =>
    rintro D c j W hD ⟨rfl, ⟨xm, xs⟩, hx, hxm, hb, q1, q2, q3⟩ hK
    simp only at hxm q2
    subst hxm
    refine wpIn_wide.2 ?_
    clear hseq
    go_wp2
    have HK := Lib.hid hK
    have S0 : W.drew.cell? ⟨w.heap.size + 1 + 1, 0, none⟩ = some (.string xm) ∧ W.drew.cell? ⟨w.heap.size + 1 + 1, 1, none⟩ = some (.int .i64 xs) ∧ W.drew.cell? ⟨w.heap.size + 1 + 1 + 1, 0, none⟩ = some (.bool true) := ⟨(facts2 q2.drew).1, (facts2 q2.drew).2.1, (facts1 q3.drew).1⟩
    obtain ⟨h0, h1, h2, h3⟩ := facts2 q1
    have q1' : Blk (((W.drew.setCell ⟨w.heap.size + 1, 0, none⟩ (.string xm)).setCell ⟨w.heap.size + 1, 1, none⟩ (.int .i64 xs))) (w.heap.size + 1) 48 #[.string xm, .int .i64 xs] := (q1.drew.set 0 _).set 1 _
    have S1 : ((W.drew.setCell ⟨w.heap.size + 1, 0, none⟩ (.string xm)).setCell ⟨w.heap.size + 1, 1, none⟩ (.int .i64 xs)).cell? ⟨w.heap.size + 1 + 1, 0, none⟩ = some (.string xm) ∧ ((W.drew.setCell ⟨w.heap.size + 1, 0, none⟩ (.string xm)).setCell ⟨w.heap.size + 1, 1, none⟩ (.int .i64 xs)).cell? ⟨w.heap.size + 1 + 1, 1, none⟩ = some (.int .i64 xs) ∧ ((W.drew.setCell ⟨w.heap.size + 1, 0, none⟩ (.string xm)).setCell ⟨w.heap.size + 1, 1, none⟩ (.int .i64 xs)).cell? ⟨w.heap.size + 1 + 1 + 1, 0, none⟩ = some (.bool true) :=
      ⟨(facts2 ((q2.drew.setOther _ _ (by omega)).setOther _ _ (by omega))).1, (facts2 ((q2.drew.setOther _ _ (by omega)).setOther _ _ (by omega))).2.1, (facts1 ((q3.drew.setOther _ _ (by omega)).setOther _ _ (by omega))).1⟩
    have HB := Lib.hid hb
    clear q1 q2 q3 hb hK
    refine calm ?_
    refine Sched.region_sched [(0, true), (1, true), (2, false), (3, true)] (fun W => W.cell? ⟨w.heap.size + 1 + 1, 0, none⟩ = some (.string xm) ∧ W.cell? ⟨w.heap.size + 1 + 1, 1, none⟩ = some (.int .i64 xs) ∧ W.cell? ⟨w.heap.size + 1 + 1 + 1, 0, none⟩ = some (.bool true)) (by kernel_rfl) (by kernel_rfl) rfl (by kernel_rfl) (fun _ _ _ _ _ h => False.elim h) S0 ?_
    intro L hL
    simp only [Sched.picks, List.getElem?_toArray, List.getElem?_cons_zero, List.getElem?_cons_succ] at hL
    subst hL
    repeat (
      refine Sched.sched_take (v := ?_) (by rfl) ?_ ?_
      rotate_left
      (focus (intro w' hSw; (try dsimp only at hSw); go_simp; (try with_reducible rfl); done))
      simp only [Act.put, List.setIfInBounds_toArray, List.set_cons_zero, List.set_cons_succ])
    refine Sched.sched_do (by rfl) fun K' hK => ?_
    go_simp
    refine hK _ _ S1 ?_
    clear hK K'
    repeat (
      refine Sched.sched_take (v := ?_) (by rfl) ?_ ?_
      rotate_left
      (focus (intro w' hSw; (try dsimp only at hSw); go_simp; (try with_reducible rfl); done))
      simp only [Act.put, List.setIfInBounds_toArray, List.set_cons_zero, List.set_cons_succ])
    refine Sched.sched_nil ?_
    unfold Calm
    simp only [Exit.then]
    go_wp2_with fail
    have hD' : (((W.setCell ⟨w.heap.size + 1, 0, none⟩ (.string xm)).setCell ⟨w.heap.size + 1, 1, none⟩ (.int .i64 xs)).drew).heap[D]? = some (.deferred (some [])) :=
      ((Below.heap_setCell _ _ _ _ (by simp; omega)).trans (Below.heap_setCell _ _ _ _ (by simp; omega))).trans HK.out
    show bodyPostM Fence.wide 6 Tryz.prog Tryz.f60 (fun e w' => (∃ v, e = .returned (.tuple #[v, .bool (decide (∃ x ∈ E, x.1 = xm))])) ∧ Below w.heap.size w w') .ret _ _
    have qf := (show Blk (((W.setCell ⟨w.heap.size + 1, 0, none⟩ (.string xm)).setCell ⟨w.heap.size + 1, 1, none⟩ (.int .i64 xs)).drew) (w.heap.size + 1) 48 #[.string xm, .int .i64 xs] from q1').put' hD' (.deferred none)
    have bf := below_put (D := D) (below_drewn ((HB.out.setCell (p := ⟨w.heap.size + 1, 0, none⟩) (by simp) (.string xm)).setCell (p := ⟨w.heap.size + 1, 1, none⟩) (by simp) (.int .i64 xs))) (by omega) (.deferred none)
    refine Zr.leave rfl hD' (resE Tryz.results60 rfl rfl qf) ⟨⟨.agg #[.string xm, .int .i64 xs], ?_⟩, bf⟩
    rw [show decide (∃ x ∈ E, x.1 = xm) = true from decide_eq_true ⟨(xm, xs), hx, rfl⟩]
    rfl
end Go.Proofs.YtpaphfofjfjdlaaGreat
