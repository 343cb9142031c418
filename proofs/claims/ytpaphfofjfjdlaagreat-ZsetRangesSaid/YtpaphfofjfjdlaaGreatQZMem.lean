/- Members: the entries of a range of members, of the set. -/
import Derived.Test.YtpaphfofjfjdlaaGreatQZRangeS
import Derived.Test.YtpaphfofjfjdlaaGreatQZBtw
import Derived.Test.YtpaphfofjfjdlaaGreatQZThru
namespace Go.Proofs.YtpaphfofjfjdlaaGreat
open Go.RowKit Go.Shelf Sk
attribute [local go_sem] Oper.semAt_some

theorem Row.keeps {w W W' : World} {n0 : Nat} {v : Value} {l : List En} {L : Nat → Prop} (h : Row W n0 v l) (h0 : Row w n0 v l) (hk : Zs.KeepC L W W') (hL : ∀ k, L k → k < n0 ∨ w.heap.size ≤ k) : Row W' n0 v l :=
  ⟨h.form, fun i e he => by
    obtain ⟨b, off, c, cur, h1, h2, h3, h4, h5⟩ := h.at' i e he
    obtain ⟨b', off', c', cur', g1, g2, g3, _, _⟩ := h0.at' i e he
    have hb : b = b' := by rw [h1] at g1; cases g1; rfl
    have hlt := g3.lt
    have h6 : Blk W' b 48 cur := hk.same b cur 48 (fun hb2 => by have := hL b hb2; omega) (.inr (.inl rfl)) h3
    refine ⟨b, off, c, cur, h1, h2, h6, ?_, ?_⟩
    · rw [h6.cell, ← h3.cell]; exact h4
    · rw [h6.cell, ← h3.cell]; exact h5⟩
theorem wpListIn_append_ran {F : Fence} {n : Nat} {P : Program} {w : World} {ops : Array Oper} {rest : List Oper} {o : Oper} {a : Act} {Q : Exit → Act → World → Prop} {v xv v' : Value} {w' : World} (hgd : o.guard = none) (s x : Operand) (t u : TypeId)
    (ho : o.op = Op.call { callee := Callee.builtin Builtin.append, args := #[s, x], argTypes := #[t, u] }) (hs : a.eval s = v) (hx : a.eval x = xv) (hrun : (Builtin.append_ #[t, u] o.type #[v, xv]).run P w = .ok v' w')
    (h : wpListIn F n P ops Q rest (a.put o.dst v') w') : wpListIn F n P ops Q (o :: rest) a w := by
  refine wpListIn_plain hgd fun K hK => ?_
  unfold Oper.wpIn
  refine ⟨?_, ?_⟩
  · simp [Oper.about, ho, resolve, Target.leads, Sem.run_pure]
  · rw [Oper.semAt_plain F _ _ (by rw [ho]; intro c hc'; cases hc')]
    simp [execOp, ho, resolve, invoke, builtin, hs, hx, hrun, Result.andThen]
    exact hK _ _ h
set_option maxRecDepth 100000 in
set_option maxHeartbeats 4000000 in
/-- The iterator behind slices.Values. -/
theorem vals_s (E : List En) (hl : E.length ≤ 1000000000) (r : Value) (n0 bx : Nat) (L : Nat → Prop) (w : World) (hr : Row w n0 r E) (hL : ∀ k, L k → k < n0 ∨ w.heap.size ≤ k) (h1 : Blk w bx 35 #[r]) :
    Zs.SeqX Tryz.prog 68 #[.pointer (some ⟨bx, 0, none⟩)] encE E L w := by
  intro y J Jx W hW hJ hJx hY hJ0
  have k1 := h1.later hW
  have hr1 := hr.later hW
  obtain ⟨a, c, rfl⟩ := hr.form
  have HR0 := Lib.hid hr
  refine callsIn_of_wp Tryz.func68 rfl trivial ?_ rfl
  simp only [Tryz.ntmps68, List.size_toArray, List.length_cons, List.length_nil, Nat.reduceAdd, Nat.reduceSub, Array.replicate_succ, Array.replicate_zero, List.push_toArray, List.append_toArray, List.nil_append, List.cons_append]
  have HY := Lib.hid hY
  have a0 := k1.cell 0
  simp at a0
  have HR1 := Lib.hid hr1
  clear hY hr hr1 h1 k1
  gi_wp2
  gi_loopw [7] (fun s wr => ∃ (i : Nat), s = .int .i64 i ∧ i ≤ E.length ∧ J i wr ∧ Row wr n0 (.slice a E.length c) E)
    (fun s _ => E.length - (intOf s).toNat)
  case atStart => exact ⟨0, rfl, by omega, hJ0, HR1.out⟩
  case round =>
    clear a0
    obtain ⟨i, rfl, hi, hJi, hrw⟩ := hrel
    by_cases hlt : i < E.length
    · have hx : E[i]? = some E[i] := List.getElem?_eq_getElem hlt
      obtain ⟨b, off, c', cur, h1, h2, h3, h4, h5⟩ := hrw.at' i _ hx
      cases h1
      generalize E[i] = e at *
      obtain ⟨m, sc⟩ := e
      simp only at h4 h5
      have hlt2 : (i : Int) < E.length := by omega
      have hb6 : Below wr.heap.size wr (wr.alloc (.cells #[.string m, .int .i64 sc] 48)) := (Below.refl _ _).alloc (Nat.le_refl _) _
      obtain ⟨fn, tmps, assign, body, hy, hR⟩ := HY.out i (m, sc) (wr.alloc (.cells #[.string m, .int .i64 sc] 48)) hx (hJ _ _ _ hJi hb6)
      unfold encE at hy
      simp only at hy
      have R6 := Lib.hid (hrw.later hb6)
      clear hx hrw hJi hb6 h3
      gi_wp2_with fail
      (try refine ⟨fun _ => by decide, ?_⟩)
      refine hR.mono ?_
      rintro e W3 (⟨rfl, hJ3, hk3⟩ | ⟨rfl, hJx3⟩)
      · have R3 := Lib.hid (R6.out.keeps HR0.out hk3 hL)
        clear hR hy hk3
        gi_wp2
        refine ⟨⟨i + 1, by go_num, hlt, hJ3, R3.out⟩, ?_⟩
        simp only [intOf]
        omega
      · gi_wp2
        exact bodyPost_ret (v := .tuple #[]) (by simp [results, Tryz.results68, go_sem]) rfl ⟨⟨_, rfl⟩, .inr ⟨_, hJx3⟩⟩
    · obtain rfl : i = E.length := by omega
      have hle : ¬ ((E.length : Int) < E.length) := by omega
      have HJ := Lib.hid hJi
      clear hrw hJi
      gi_wp2
      go_end0
      exact ⟨⟨_, rfl⟩, .inl HJ.out⟩

/-- The members of a range. -/
def memP (a : ByteArray) (oa : Bool) (ia : Int) (b : ByteArray) (ob : Bool) (ib : Int) (e : En) : Bool := Bd.fromRE e.1 a oa ia && Bd.toRE e.1 b ob ib
theorem filter_take {p : En → Bool} {E : List En} {i : Nat} {x : En} (h : E[i]? = some x) : (E.take (i + 1)).filter p = (E.take i).filter p ++ (if p x then [x] else []) := by
  obtain ⟨hi, he⟩ := List.getElem?_eq_some_iff.1 h
  rw [List.take_succ_eq_append_getElem hi, List.filter_append, he]
  cases hp : p x <;> simp [hp]
theorem form_thru {w : World} {fv : Value} {E : List En} (h : FormIs w fv E) : Calls Tryz.prog 46 #[fv] w (Thru w E) := by
  rcases h with ⟨b, rfl, h⟩ | ⟨l, p, q, D, sd, L, m, n, rfl, h, rfl, hN⟩
  · exact p_thru h
  · exact l_thru h hN
/-- Behind an append to a list in a box. -/
theorem app_keeps {W W6 W7 : World} {o : Obj} {b n0 : Nat} {r v' : Value} {l : List En} {L : Nat → Prop} (hb6 : Below W.heap.size W W6) (ho : Own48 W n0 r l) (hgrow : (W6.alloc o).grownBy W7 r.ownBlock) (hL : ∀ k, n0 ≤ k → L k) (hLb : L b) :
    Zs.KeepC L W (W7.setCell ⟨b, 0, none⟩ v') := by
  refine ((Zs.KeepC.of_below hb6).trans (Zs.KeepC.of_below (alloc_below _ o))).trans (Zs.KeepC.trans ?_ (Zs.KeepC.set _ _ _ _ hLb))
  refine ⟨hgrow.size, fun k c t hk _ hx => (hgrow.block k (Array.getElem?_eq_some_iff.1 hx).1 fun e => hk (hL k ?_)).trans hx⟩
  exact (World.ownsRow.lt ho k e.symm).1
theorem inEdge_bool (m : ByteArray) (a b : ByteArray) (oa ob : Bool) (ia ib : Int) (s : Int) (W : World) : Calls Tryz.prog 47 #[.string m, .agg #[.string a, .bool oa, .int .i64 ia], .agg #[.string b, .bool ob, .int .i64 ib]] W fun e w' => e = .returned (.bool (memP a oa ia b ob ib (m, s))) ∧ Below W.heap.size W w' := by
  have := Bd.inEdge_any m a b oa ob ia ib W
  rwa [Bd.inEdgeB_eq] at this

variable {w w' : World} {s c : Nat} {le lm : Int} {E : List En}
set_option maxRecDepth 100000 in
set_option maxHeartbeats 4000000 in
theorem set_members {S : Nat → Prop} {isL : Bool} (h : SetIs w s S isL le lm c E) (a b : ByteArray) (oa ob : Bool) (ia ib : Int) : Calls Tryz.prog 29 #[.pointer (some ⟨s, 0, none⟩), .agg #[.string a, .bool oa, .int .i64 ia], .agg #[.string b, .bool ob, .int .i64 ib]] w
    fun e w' => ∃ r, e = .returned r ∧ Own48 w' w.heap.size r (E.filter (memP a oa ia b ob ib)) ∧ Below w.heap.size w w' := by
  obtain ⟨i0, hi0, hz0, hz1, hz2⟩ := info_parts Pk.info48
  have hlen : E.length ≤ 10000 := by have h1 := h.good.len; have h2 := h.good.cap; omega
  obtain ⟨fv, hn⟩ := now_form h
  have HN := fun W hb => Lib.hid (hn W hb)
  clear hn h
  refine (callsIn_wide (n := 6)).1 (callsIn_of_wp_marks Tryz.func29 rfl trivial ?_ rfl)
  refine wpIn_wide.2 ?_
  simp only [Tryz.ntmps29, List.size_toArray, List.length_cons, List.length_nil, Nat.reduceAdd, Nat.reduceSub, Array.replicate_succ, Array.replicate_zero, List.push_toArray, List.append_toArray, List.nil_append, List.cons_append]
  have hB0 : Below w.heap.size w (((w.alloc (Obj.cells #[.string a, .bool oa, .int .i64 ia] 53)).alloc (Obj.cells #[.string b, .bool ob, .int .i64 ib] 53)).alloc (Obj.cells #[Value.slice none 0 0] 35)) :=
    (((Below.refl w.heap.size w).alloc (Nat.le_refl _) _).alloc (by simp) _).alloc (by simp; omega) _
  have k0 := ((Blk.new w 53 #[.string a, .bool oa, .int .i64 ia]).alloc (Obj.cells #[.string b, .bool ob, .int .i64 ib] 53)).alloc (Obj.cells #[Value.slice none 0 0] 35)
  have k1 := (Blk.new (w.alloc (Obj.cells #[.string a, .bool oa, .int .i64 ia] 53)) 53 #[.string b, .bool ob, .int .i64 ib]).alloc (Obj.cells #[Value.slice none 0 0] 35)
  have k2 := Blk.new ((w.alloc (Obj.cells #[.string a, .bool oa, .int .i64 ia] 53)).alloc (Obj.cells #[.string b, .bool ob, .int .i64 ib] 53)) 35 #[Value.slice none 0 0]
  simp only [World.size_alloc] at k1 k2
  go_wp2_with fail
  have hsz : (((w.alloc (Obj.cells #[.string a, .bool oa, .int .i64 ia] 53)).alloc (Obj.cells #[.string b, .bool ob, .int .i64 ib] 53)).alloc (Obj.cells #[Value.slice none 0 0] 35)).heap.size = w.heap.size + 3 := by simp
  generalize (((w.alloc (Obj.cells #[.string a, .bool oa, .int .i64 ia] 53)).alloc (Obj.cells #[.string b, .bool ob, .int .i64 ib] 53)).alloc (Obj.cells #[Value.slice none 0 0] 35)) = w1 at *
  have HT := Lib.hid (form_thru (HN w1 hB0).out.1)
  refine (HN w1 hB0).out.2.mono ?_
  rintro e w1' ⟨rfl, rfl⟩
  clear HN
  go_wp2_with fail
  refine HT.out.mono ?_
  rintro e w2 ⟨bx, r, rfl, hbx, hbs, hr, hb2⟩
  have k0 := k0.later hb2
  have k1 := k1.later hb2
  have k2 := k2.later hb2
  have hB := hB0.trans (hb2.mono hB0.size)
  have hseq := vals_s E (by omega) r _ bx (fun k => k = w.heap.size + 1 + 1 ∨ w2.heap.size ≤ k) w2 hr (fun k hk => hk.elim (fun hk => .inl (by omega)) .inr) hbx
  have hz2' := hb2.size
  clear HT hB0 hr hbx
  go_wp2_with fail
  have HLEN := Lib.hid hlen
  have HLN := Lib.hid (show ∀ i, ((E.take i).filter (memP a oa ia b ob ib)).length ≤ 10000 from fun i => Nat.le_trans (List.length_filter_le _ _) (by simp only [List.length_take]; omega))
  refine (wpIn_wide (n := 6)).1 (Zs.range_x (gf := 68) (lb := #[.pointer (some ⟨bx, 0, none⟩)]) (encs := encE) (xs := E) (L := fun k => k = w.heap.size + 1 + 1 ∨ w2.heap.size ≤ k) rfl (enters_of Tryz.func68 (by kernel_rfl) rfl) hseq (fun _ _ => rfl)
    (fun i W => ∃ r, Below w.heap.size w W ∧ Blk W w.heap.size 53 #[.string a, .bool oa, .int .i64 ia] ∧ Blk W (w.heap.size + 1) 53 #[.string b, .bool ob, .int .i64 ib] ∧ Blk W (w.heap.size + 1 + 1) 35 #[r] ∧ w2.heap.size ≤ W.heap.size ∧ Own48 W w2.heap.size r ((E.take i).filter (memP a oa ia b ob ib)))
    (fun _ _ _ => False)
    ?hI ?hIx ?h0 (fun i x a' W => ∃ q, (∃ u, a' = { tmps := #[.pointer (some ⟨s, 0, none⟩), .agg #[.string a, .bool oa, .int .i64 ia], .agg #[.string b, .bool ob, .int .i64 ib], undef, .pointer (some ⟨w.heap.size, 0, none⟩), .pointer (some ⟨w.heap.size + 1, 0, none⟩), .slice none 0 0,
          .pointer (some ⟨w.heap.size + 1 + 1, 0, none⟩), .pointer (some ⟨q, 0, none⟩), .pointer (some ⟨s, 0, none⟩), fv,
          .func (.func 68) #[] #[.pointer (some ⟨bx, 0, none⟩)], u, undef, undef, undef, undef, undef, undef, undef, undef, undef, undef], defers := [] }) ∧ Blk W q 48 #[.string x.1, .int .i64 x.2])
    (fun _ _ _ => own_ex fun _ => (own_pure _ _).and (own_blk _ _ _ _)) ?assign ?body ?done ?stop)
  case hI => exact own_ex fun r => (own_below _ w (by omega)).and ((own_blk _ _ _ _).and ((own_blk _ _ _ _).and ((own_blk _ _ _ _).and (OwnFrom.and (fun s X Y row hs hg hr => Nat.le_trans hs hg.size) (Pk.own_row _ _ _ _)))))
  case hIx => exact fun c => own_pure _ _
  case h0 => exact ⟨_, hB, k0, k1, k2, Nat.le_refl _, World.ownsRow_nil _ _ _ _⟩
  case assign =>
    rintro l i ⟨xm, xs⟩ W K hx' ⟨r, hb, q0, q1, q2, hsw, hown⟩ hK
    clear hseq
    unfold encE
    gi_wp2
    refine hK _ _ ((KeepsOthers.alloc _ _).from _) (Zs.KeepC.of_below (alloc_below _ _)) ⟨r, hb.alloc hb.size _, q0.alloc _, q1.alloc _, q2.alloc _, ?_, World.ownsRow.alloc hown _⟩ ⟨_, ⟨_, rfl⟩, Blk.new _ _ _⟩
    simp; omega
  case body =>
    rintro l i ⟨xm, xs⟩ a' W hx' ⟨r, hb, q0, q1, q2, hsw, hown⟩ ⟨q, ⟨u, rfl⟩, q6⟩
    clear hseq
    simp only at q6
    have HM := fun W => Lib.hid (inEdge_bool xm a b oa ob ia ib xs W)
    have hft := filter_take (p := memP a oa ia b ob ib) hx'
    have hle := HLN.out i
    obtain ⟨d0, d1, _⟩ := facts2 q6
    obtain ⟨f0, f1, f2, _⟩ := facts3 q0
    obtain ⟨g0, g1, g2, _⟩ := facts3 q1
    have Q0 := Lib.hid q0
    have Q1 := Lib.hid q1
    have Q2 := Lib.hid q2
    have Q6 := Lib.hid q6
    have HB := Lib.hid hb
    have HO := Lib.hid hown
    have HFT := Lib.hid hft
    generalize (E.take i).filter (memP a oa ia b ob ib) = l0 at *
    clear q0 q1 q2 q6 hx' hb hown hft
    by_cases hm : memP a oa ia b ob ib (xm, xs) = true
    · have HIM := Lib.hid hm
      rw [hm] at HM
      clear hm
      gi_wp2
      refine ⟨trivial, ?_⟩
      refine (CallsIn.inRound l (callsIn_wide.2 (HM _).out)).mono ?_
      rintro e W5 ⟨rfl, hb5⟩
      have q25 := Q2.out.later hb5
      obtain ⟨d05, d15, _⟩ := facts2 (Q6.out.later hb5)
      obtain ⟨g7, cap7, w7, hrun, hown7, hgrow⟩ := Pk.app_ent hi0 hz0 hz1 hz2 HO.out hb5 (xm, xs) (by omega) (by have h1 := hb5.size; omega)
      obtain ⟨c0, _⟩ := facts1 q25
      obtain ⟨c1, _⟩ := facts1 (q25.alloc (.cells #[.string xm, .int .i64 xs] 48))
      have q27 : Blk w7 (w.heap.size + 1 + 1) 35 #[r] := Pk.Blk.row q25 hgrow (HO.out.later hb5)
      obtain ⟨c7, c8⟩ := facts1 q27
      obtain ⟨z1, _, z3, z4, z5⟩ := Pk.app_end Q2.out HO.out hb5 hgrow hown7 (by omega) HB.out (by omega) w2.heap.size []
      have z2 := app_keeps (b := w.heap.size + 1 + 1) (v' := .slice (some ⟨g7, 0, none⟩) (l0.length + 1) cap7) (L := fun k => k = w.heap.size + 1 + 1 ∨ w2.heap.size ≤ k) hb5 HO.out hgrow (fun k hk => .inr hk) (.inl rfl)
      have z6 : Blk (w7.setCell ⟨w.heap.size + 1 + 1, 0, none⟩ (.slice (some ⟨g7, 0, none⟩) (l0.length + 1) cap7)) w.heap.size 53 #[.string a, .bool oa, .int .i64 ia] := Sk.Blk.setOther _ _ (Pk.Blk.row (Q0.out.later hb5) hgrow (HO.out.later hb5)) (by omega)
      have z7 : Blk (w7.setCell ⟨w.heap.size + 1 + 1, 0, none⟩ (.slice (some ⟨g7, 0, none⟩) (l0.length + 1) cap7)) (w.heap.size + 1) 53 #[.string b, .bool ob, .int .i64 ib] := Sk.Blk.setOther _ _ (Pk.Blk.row (Q1.out.later hb5) hgrow (HO.out.later hb5)) (by omega)
      have z8 : w2.heap.size ≤ (w7.setCell ⟨w.heap.size + 1 + 1, 0, none⟩ (.slice (some ⟨g7, 0, none⟩) (l0.length + 1) cap7)).heap.size := Nat.le_trans hsw z2.size
      have z9 := Lib.hid (show Own48 (w7.setCell ⟨w.heap.size + 1 + 1, 0, none⟩ (.slice (some ⟨g7, 0, none⟩) (l0.length + 1) cap7)) w2.heap.size (.slice (some ⟨g7, 0, none⟩) (l0.length + 1) cap7) ((E.take (i + 1)).filter (memP a oa ia b ob ib)) from by rw [HFT.out, if_pos HIM.out]; exact z5)
      have Z := Lib.hid (And.intro z1 (And.intro z2 (And.intro z3 (And.intro z6 (And.intro z7 (And.intro z4 z8))))))
      clear q25 q27 hown7 hgrow z1 z2 z3 z4 z5 z6 z7 z8 d0 d1 f0 f1 f2 g0 g1 g2
      gi_wp2_with (gi_at_builtin; refine wpListIn_append_ran rfl _ _ 35 35 rfl rfl rfl hrun ?_)
      obtain ⟨z1, z2, z3, z6, z7, z4, z8⟩ := Z.out
      exact ⟨z1, z2, _, z3, z6, z7, z4, z8, z9.out⟩
    · have hmf : memP a oa ia b ob ib (xm, xs) = false := by simpa using hm
      have HIM := Lib.hid hmf
      rw [hmf] at HM
      clear hm hmf
      gi_wp2
      refine ⟨trivial, ?_⟩
      refine (CallsIn.inRound l (callsIn_wide.2 (HM _).out)).mono ?_
      rintro e W5 ⟨rfl, hb5⟩
      gi_wp2
      refine ⟨KeepsFrom.of_grownBy (row := none) (Zr.below_grown hb5) (fun _ h => by cases h), Zs.KeepC.of_below hb5, r, HB.out.trans (hb5.mono HB.out.size), Q0.out.later hb5, Q1.out.later hb5, Q2.out.later hb5, Nat.le_trans hsw hb5.size, ?_⟩
      rw [HFT.out, HIM.out]
      simpa using HO.out.later hb5
  case done =>
    rintro D W hD ⟨r, hb, q0, q1, q2, hsw, hown⟩ hK
    rw [List.take_length] at hown
    clear hseq
    obtain ⟨c1, c2⟩ := facts1 q2
    have HK := Lib.hid hK
    have HB := Lib.hid hb
    have HO := Lib.hid hown
    clear hK q0 q1 q2 hb hown
    simp only [Exit.inBlock, Exit.then]
    rename_i KK hKK _ _ _ _
    refine hKK _ _ ?_
    go_wp2_with fail
    exact Zr.leave (v := r) rfl HK.out (by simp [results, Tryz.results29, go_sem]) ⟨r, rfl, Pk.ownsRow_mono (ownsRow_putObj HO.out _ HK.out rfl) (by omega), below_put HB.out (by omega) _⟩
  case stop =>
    rintro D c j W hD hI hK
    exact hI.elim
end Go.Proofs.YtpaphfofjfjdlaaGreat
