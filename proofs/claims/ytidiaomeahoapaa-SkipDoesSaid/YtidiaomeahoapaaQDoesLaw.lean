/- What acts tell, and what is there behind each of them. -/
import Derived.Test.YtidiaomeahoapaaQ18
import Derived.Deep.RegionHeld
namespace Go.Proofs.Ytidiaomeahoapaa
open Go.RowKit Go.Shelf
attribute [local go_sem] Oper.semAt_some

theorem eq_bools (b : Bool) : (b == b) = true := by cases b <;> rfl
set_option linter.unusedSimpArgs false in
set_option linter.unusedVariables false in
set_option maxRecDepth 100000 in
set_option maxHeartbeats 16000000 in
theorem does_walk (a : Option Addr) (cap : Nat) (l : List Ac) (hn : l.length ≤ 9223372036854775807) (hu : ∀ x ∈ l, x.Fit) (w : World) (hA : Acts w a l) :
    Calls Try.prog 3 #[.slice a l.length cap] w fun e w' => e = .returned (.bool true) ∧ Below w.heap.size w w' := by
  have H10 := Lib.hid (shown_any w)
  have HN := fun w1 => Lib.hid (new_any w1)
  have HU := Lib.hid hu
  have HA := Lib.hid hA
  clear hu hA
  go_enter Try.func3, Try.ntmps3
  go_wp2_with fail
  refine H10.out.mono ?_
  rintro e w1 ⟨rfl, hb1⟩
  go_wp2_with fail
  refine (HN w1).out.mono ?_
  rintro e w2 ⟨rfl, hb2, hls⟩
  have hz1 := hb1.size
  have hz2 := hb2.size
  have hD0 : DoesAt w w1.heap.size w2.heap.size 0 (w2.alloc (.cells #[.slice none 0 0, .slice none 0 0] 30)) :=
    ⟨⟨[], hls.later (alloc_below _ _), ref_start w2, (by rintro k ⟨x, hx, rfl⟩; simp at hx; subst hx; exact hz1), Nat.le_refl _, fun y hy => by cases hy⟩,
      (hb1.trans (hb2.mono hz1)).trans ((alloc_below _ _).mono (by omega)), by omega⟩
  have HD0 := Lib.hid hD0
  clear hb1 hb2 hls hz1 hz2 hD0 H10 HN
  go_wp2_with fail
  generalize w1.heap.size = p at *
  generalize w2.heap.size = r at *
  go_loopw [6] (fun i wr => ∃ (k : Nat), i = .int .i64 k ∧ k ≤ min l.length 120 ∧ DoesAt w p r k wr) (fun i _ => 120 - (intOf i).toNat)
  case atStart => exact ⟨0, rfl, by omega, HD0.out⟩
  case round =>
    clear HD0
    obtain ⟨k, rfl, hk, hM⟩ := hrel
    by_cases hlt : k < l.length ∧ k < 120
    · obtain ⟨hk1, hk2⟩ := hlt
      obtain ⟨b, off, rfl, hc⟩ := HA.out k hk1
      obtain ⟨⟨L, hls, hrm, hby, hlen, hsm⟩, hbl, hrb⟩ := hM
      have hc6 : ∀ j u, (l[k]).cells[j]? = some u → wr.cell? ⟨b, off + k * 6 + j, none⟩ = some u := fun j u hj => by
        have := hc j u hj
        exact (hbl.cell (World.block_lt_of_cell? w _ this)).trans this
      have hfit := HU.out _ (List.getElem_mem hk1)
      generalize l[k] = x at *
      have c0 := hc6 0 _ rfl
      have c1 := hc6 1 _ rfl
      have c2 := hc6 2 _ rfl
      have c3 := hc6 3 _ rfl
      have c4 := hc6 4 _ rfl
      have c5 := hc6 5 _ rfl
      rw [Nat.add_zero] at c0
      have hbX := alloc_below wr (Obj.cells x.cells.toArray 34)
      have HD := Lib.hid (did_any (hls.later hbX) (by omega) hsm (RefAt.later hrm hbX) x hfit)
      have kX := Blk.new wr 34 x.cells.toArray
      have hlE := effD_len x (L.map er)
      have hsE := effD_small x hsm
      rw [List.length_map] at hlE
      have hbl2 := hbl.trans (hbX.mono hbl.size)
      have HF := fun w3 (h : DidP (wr.alloc (Obj.cells x.cells.toArray 34)) w3 p r L (effD x (L.map er))) =>
        Lib.hid (And.intro (DoesAt.did (k := k + 1) hby hbl2 hrb (by omega) hsE h) (h.far.blk kX (fun e => by
          rcases e with e | e
          · have := hls.sk.lt e; simp at this
          · have := hrm; obtain ⟨_, _, _, _, h1, _⟩ := this.ex; have := h1.lt; omega)))
      unfold Ac.val at HD
      have HBL := Lib.hid hbl
      clear hc hc6 hfit hls hrm hby hbl hbl2 hbX kX hlE hsE hsm HA HU
      generalize effD x (L.map er) = M at *
      obtain ⟨xd, xm, xs, xl, xf, xt⟩ := x
      simp only [Ac.cells] at c0 c1 c2 c3 c4 c5 HD HF
      have hk3 : (k : Int) < l.length := by omega
      have hk4 : (k : Int) < 120 := by omega
      go_wp2_with fail
      refine HD.out.mono ?_
      rintro e w3 ⟨rfl, hdp⟩
      obtain ⟨hda, kX⟩ := (HF w3 hdp).out
      clear hdp HD HF HBL c0 c1 c2 c3 c4 c5
      obtain ⟨⟨L2, hls, hrm, hby, hlen, hsm⟩, hbl, hrb2⟩ := hda
      have hlen2 : L2.length ≤ 1000 := by omega
      have hDA := fun W (hb : Below w3.heap.size w3 W) => Lib.hid (show DoesAt w p r (k + 1) W from (show DoesAt w p r (k + 1) w3 from ⟨⟨L2, hls, hrm, hby, hlen, hsm⟩, hbl, hrb2⟩).later hb)
      obtain ⟨ra, rc, ra2, rc2, kR, _, _, hfE, hfI⟩ := hrm.ex
      have hEE : (L2.map er).map e2 = L2.map en := (en_er L2).symm
      rw [hEE, List.length_map] at kR
      rw [hEE] at hfE
      have hEl : (L2.map en).length = L2.length := List.length_map ..
      have HFE := fun W (hb : Below w3.heap.size w3 W) => Lib.hid (flat_later hfE hb)
      have HC := fun W (hb : Below w3.heap.size w3 W) => Lib.hid (And.intro (facts6 (kX.later hb)) (facts2 (kR.later hb)))
      have HLen := fun W (hb : Below w3.heap.size w3 W) => Lib.hid (len_any p L2 rfl (hls.later hb).sk)
      have HLev := fun W (hb : Below w3.heap.size w3 W) => Lib.hid (levels_ls (hls.later hb))
      have HRLev := fun W (hb : Below w3.heap.size w3 W) => Lib.hid (refLevels_any r _ _ (by simpa using hlen2) W (RefAt.later hrm hb))
      simp only [maxI_lvs] at HRLev
      have HR1 := fun W (hb : Below w3.heap.size w3 W) => Lib.hid (rng0 (hls.later hb) (by omega))
      have HS1 := fun W (a1 a2 : Option Addr) (c1 c2 : Nat) (h1 : Flat W a1 (cellsE (L2.map en))) (h2 : Flat W a2 (cellsE (L2.map en))) => Lib.hid (same_flat a1 a2 c1 c2 (L2.map en) (by simp; omega) W h1 h2)
      rw [hEl] at HS1
      have HR2 := fun W (hb : Below w3.heap.size w3 W) => Lib.hid (rng1 (hls.later hb) (by omega) xf xt)
      have HR3 := fun W (hb : Below w3.heap.size w3 W) => Lib.hid (rng2 hlen2 (RefAt.later hrm hb) xf xt)
      have hml : (sub (L2.map en) xf xt).length ≤ 1000000 := by rw [sub_len, List.length_map]; unfold to0; omega
      have HS2 := fun W (a1 a2 : Option Addr) (c1 c2 : Nat) (h1 : Flat W a1 (cellsE (sub (L2.map en) xf xt))) (h2 : Flat W a2 (cellsE (sub (L2.map en) xf xt))) => Lib.hid (same_flat a1 a2 c1 c2 _ hml W h1 h2)
      obtain ⟨sp, hspl, hsp1, hsp2⟩ := spans_both hls hlen2 hrm xl
      have HSP1 := Lib.hid hsp1
      have HSP2 := Lib.hid hsp2
      have HI := fun W (a1 a2 : Option Addr) (c1 c2 : Nat) (h1 : Flat W a1 (cellsI sp)) (h2 : Flat W a2 (cellsI sp)) => Lib.hid (refInts_any a1 a2 c1 c2 sp (by omega) W h1 h2)
      generalize (sub (L2.map en) xf xt).length = nm at *
      generalize sub (L2.map en) xf xt = SB at *
      generalize sp.length = nsp at *
      have hSK := Lib.hid (And.intro hls (And.intro hlen2 hfE))
      clear hls hrm hby hlen hsm hbl hrb2 hfE hfI hEE kR kX hml hsp1 hsp2 hspl hlen2
      have HDA := fun W hb => (hDA W hb)
      generalize wr.heap.size = ab at *
      by_cases hin : 0 ≤ xf ∧ xf < L2.length
      · obtain ⟨hin1, hin2⟩ := hin
        obtain ⟨kf, rfl⟩ : ∃ kf : Nat, xf = kf := ⟨xf.toNat, by omega⟩
        have hx : L2[kf]? = some L2[kf] := List.getElem?_eq_getElem (by omega)
        generalize L2[kf] = y at hx
        have HAt := Lib.hid (at_any p L2 rfl hSK.out.1.sk rfl (by have := hSK.out.2.1; simp; omega) kf y hx)
        have hEy : (L2.map en)[kf]? = some (y.m, y.s) := by rw [List.getElem?_map, hx]; rfl
        obtain ⟨rb, roff, rfl, q0, q1⟩ := flat_ent hSK.out.2.2 hEy
        have HQ := fun W (hb : Below w3.heap.size w3 W) => Lib.hid (And.intro ((hb.cell (World.block_lt_of_cell? _ _ q0)).trans q0) ((hb.cell (World.block_lt_of_cell? _ _ q1)).trans q1))
        have hne := neq_ent y.m y.m y.s y.s true (by simp)
        clear hx hEy q0 q1 hSK
        obtain ⟨⟨e0, e1, e2, e3, e4, e5⟩, r0, r1, _, _⟩ := (HC _ (Below.refl _ _)).out
        go_wp2_with fail
        refine HAt.out.mono ?_
        rintro e w4 ⟨rfl, hb4⟩
        have hB := hb4.trans ((alloc_below w4 (Obj.cells #[.string y.m, .int .i64 y.s] 32)).mono hb4.size)
        have k9 := Blk.new w4 32 #[.string y.m, .int .i64 y.s]
        obtain ⟨w5, hw5⟩ : ∃ w5, w5 = w4.alloc (Obj.cells #[.string y.m, .int .i64 y.s] 32) := ⟨_, rfl⟩
        rw [← hw5] at hB k9
        have hB1 := hB.trans ((drewB w5 1).mono hB.size)
        have HLenA := HLen w5.drew hB1; have HLevA := HLev w5.drew hB1; have HRLevA := HRLev w5.drew hB1; have HR1A := HR1 w5.drew hB1
        clear e0 e1 e2 e3 e4 e5 r0 r1 hb4 HAt HLen HLev HRLev HR1 hB1
        obtain ⟨⟨e0, e1, e2, e3, e4, e5⟩, r0, r1, _, _⟩ := (HC _ hB).out
        have hK9 := fun W (hb : Below w5.heap.size w5 W) => Lib.hid (facts2 (k9.later hb))
        go_wp2_with fail
        rw [← hw5]
        clear hw5
        skip
        have B5 : ∀ W, Below w5.heap.size w5 W → Below w3.heap.size w3 W := fun W hb => hB.trans (hb.mono hB.size)
        have HSW := Lib.hid (fun W (hb : Below w5.heap.size w5 W) => show W.cell? ⟨ab, 3, none⟩ = some (.int .i64 xl) ∧ W.cell? ⟨ab, 4, none⟩ = some (.int .i64 (kf : Int)) ∧ W.cell? ⟨ab, 5, none⟩ = some (.int .i64 xt) ∧ W.cell? ⟨r, 0, none⟩ = some (.slice (some ⟨rb, roff, none⟩) L2.length rc) ∧ W.cell? ⟨rb, roff + kf * 2, none⟩ = some (.string y.m) ∧ W.cell? ⟨rb, roff + kf * 2 + 1, none⟩ = some (.int .i64 y.s) ∧ W.cell? ⟨w4.heap.size, 0, none⟩ = some (.string y.m) ∧ W.cell? ⟨w4.heap.size, 1, none⟩ = some (.int .i64 y.s) from ⟨(HC W (B5 W hb)).out.1.2.2.2.1, (HC W (B5 W hb)).out.1.2.2.2.2.1, (HC W (B5 W hb)).out.1.2.2.2.2.2, (HC W (B5 W hb)).out.2.1, (HQ W (B5 W hb)).out.1, (HQ W (B5 W hb)).out.2, (hK9 W hb).out.1, (hK9 W hb).out.2.1⟩)
        have S0 := HSW.out _ (drewB w5 1)
        have B5 := Lib.hid B5
        have HB3 := Lib.hid hB
        clear hB HC hK9 HQ e0 e1 e2 e3 e4 e5 r0 r1 k9
        simp only [List.append_eq, List.cons_append, List.nil_append]
        refine Sched.region_sched [(0, true), (1, true), (2, true), (3, true), (5, true), (6, true), (7, true), (8, true), (9, true), (4, false), (10, true), (11, true), (12, true), (13, true), (15, true), (14, false), (16, false), (17, true), (18, true), (19, true), (20, true), (21, true), (24, true), (25, true), (26, true), (27, true), (22, false), (23, false), (28, false), (29, true), (30, true), (31, true), (32, true), (33, true), (34, true), (35, true), (36, true), (38, true), (39, true), (40, true), (41, true), (42, true), (37, false), (43, false), (44, false), (45, true), (46, true), (47, true), (48, true), (49, true), (50, true), (52, true), (53, true), (54, true), (51, false), (55, false), (56, false), (57, true), (58, true), (59, true), (60, true), (61, true), (62, true), (63, true), (64, true), (65, true), (66, true), (67, true), (68, true), (69, true), (70, true), (71, true), (72, true), (73, true), (74, true), (75, true), (76, true), (77, true), (78, true), (79, true), (80, true), (81, true), (82, true), (83, true), (84, true), (85, true), (86, true), (87, true), (88, true), (89, true), (90, true)] (fun W => W.cell? ⟨ab, 3, none⟩ = some (.int .i64 xl) ∧ W.cell? ⟨ab, 4, none⟩ = some (.int .i64 (kf : Int)) ∧ W.cell? ⟨ab, 5, none⟩ = some (.int .i64 xt) ∧ W.cell? ⟨r, 0, none⟩ = some (.slice (some ⟨rb, roff, none⟩) L2.length rc) ∧ W.cell? ⟨rb, roff + kf * 2, none⟩ = some (.string y.m) ∧ W.cell? ⟨rb, roff + kf * 2 + 1, none⟩ = some (.int .i64 y.s) ∧ W.cell? ⟨w4.heap.size, 0, none⟩ = some (.string y.m) ∧ W.cell? ⟨w4.heap.size, 1, none⟩ = some (.int .i64 y.s)) (by kernel_rfl) (by kernel_rfl) rfl (by kernel_rfl) (fun _ _ _ d _ h => by cases d <;> exact h) S0 ?_
        intro L hL
        simp only [Sched.picks, List.getElem?_toArray, List.getElem?_cons_zero, List.getElem?_cons_succ] at hL
        subst hL
        repeat (first
          | (refine Sched.sched_skip (by rfl) ?_; simp only [Act.put, List.setIfInBounds_toArray, List.set_cons_zero, List.set_cons_succ])
          | (refine Sched.sched_take (v := ?_) (by rfl) ?_ ?_
             rotate_left
             (focus (intro w' hSw; (try dsimp only at hSw); go_simp; (try with_reducible rfl); done))
             simp only [Act.put, List.setIfInBounds_toArray, List.set_cons_zero, List.set_cons_succ]))
        refine Sched.sched_do (by rfl) fun K' hK => ?_
        go_simp
        go_at_call 14; refine HLenA.out.mono ?_; rintro e w6 ⟨rfl, rfl⟩
        refine hK _ _ S0 ?_
        clear hK K'
        repeat (first
          | (refine Sched.sched_skip (by rfl) ?_; simp only [Act.put, List.setIfInBounds_toArray, List.set_cons_zero, List.set_cons_succ])
          | (refine Sched.sched_take (v := ?_) (by rfl) ?_ ?_
             rotate_left
             (focus (intro w' hSw; (try dsimp only at hSw); go_simp; (try with_reducible rfl); done))
             simp only [Act.put, List.setIfInBounds_toArray, List.set_cons_zero, List.set_cons_succ]))
        refine Sched.sched_do (by rfl) fun K' hK => ?_
        go_simp
        go_at_call 15; refine HLevA.out.mono ?_; rintro e w6 ⟨rfl, rfl⟩
        refine hK _ _ S0 ?_
        clear hK K'
        as_aux_lemma => (
          repeat (first
            | (refine Sched.sched_skip (by rfl) ?_; simp only [Act.put, List.setIfInBounds_toArray, List.set_cons_zero, List.set_cons_succ])
            | (refine Sched.sched_take (v := ?_) (by rfl) ?_ ?_
               rotate_left
               (focus (intro w' hSw; (try dsimp only at hSw); go_simp; (try with_reducible rfl); done))
               simp only [Act.put, List.setIfInBounds_toArray, List.set_cons_zero, List.set_cons_succ]))
          refine Sched.sched_do (by rfl) fun K' hK => ?_
          go_simp
          go_at_call 16; refine HRLevA.out.mono ?_; rintro e w6 ⟨rfl, rfl⟩
          refine hK _ _ S0 ?_
          clear hK K'
          repeat (first
            | (refine Sched.sched_skip (by rfl) ?_; simp only [Act.put, List.setIfInBounds_toArray, List.set_cons_zero, List.set_cons_succ])
            | (refine Sched.sched_take (v := ?_) (by rfl) ?_ ?_
               rotate_left
               (focus (intro w' hSw; (try dsimp only at hSw); go_simp; (try with_reducible rfl); done))
               simp only [Act.put, List.setIfInBounds_toArray, List.set_cons_zero, List.set_cons_succ]))
          refine Sched.sched_do (by rfl) fun K' hK => ?_
          go_simp
          go_at_call 14; refine HLenA.out.mono ?_; rintro e w6 ⟨rfl, rfl⟩
          refine hK _ _ S0 ?_
          clear hK K'
          repeat (first
            | (refine Sched.sched_skip (by rfl) ?_; simp only [Act.put, List.setIfInBounds_toArray, List.set_cons_zero, List.set_cons_succ])
            | (refine Sched.sched_take (v := ?_) (by rfl) ?_ ?_
               rotate_left
               (focus (intro w' hSw; (try dsimp only at hSw); go_simp; (try with_reducible rfl); done))
               simp only [Act.put, List.setIfInBounds_toArray, List.set_cons_zero, List.set_cons_succ]))
          refine Sched.sched_do (by rfl) fun K' hK => ?_
          go_simp
          go_at_call 18; refine HR1A.out.mono ?_; rintro e w6 ⟨a6, c6, rfl, hf6, hb6⟩
          have HB6 := Lib.hid ((drewB w5 1).trans hb6)
          have S6 := HSW.out _ HB6.out
          have HS1A := HS1 w6 a6 (some ⟨rb, roff, none⟩) c6 rc hf6 (HFE w6 (B5.out _ HB6.out)).out
          clear HR1A HLenA HLevA HRLevA hb6 hf6 HS1 HFE
          refine hK _ _ S6 ?_
          clear hK K'
          as_aux_lemma => (
            clear S0
            repeat (first
              | (refine Sched.sched_skip (by rfl) ?_; simp only [Act.put, List.setIfInBounds_toArray, List.set_cons_zero, List.set_cons_succ])
              | (refine Sched.sched_take (v := ?_) (by rfl) ?_ ?_
                 rotate_left
                 (focus (intro w' hSw; (try dsimp only at hSw); go_simp; (try with_reducible rfl); done))
                 simp only [Act.put, List.setIfInBounds_toArray, List.set_cons_zero, List.set_cons_succ]))
            refine Sched.sched_do (by rfl) fun K' hK => ?_
            go_simp
            go_at_call 17; refine HS1A.out.mono ?_; rintro e w7 ⟨rfl, hb7⟩
            have HB7 := Lib.hid (HB6.out.trans (hb7.mono HB6.out.size))
            have S7 := HSW.out _ HB7.out
            have HR2A := HR2 w7 (B5.out _ HB7.out)
            clear HS1A hb7 HR2
            refine hK _ _ S7 ?_
            clear hK K'
            clear S6
            repeat (first
              | (refine Sched.sched_skip (by rfl) ?_; simp only [Act.put, List.setIfInBounds_toArray, List.set_cons_zero, List.set_cons_succ])
              | (refine Sched.sched_take (v := ?_) (by rfl) ?_ ?_
                 rotate_left
                 (focus (intro w' hSw; (try dsimp only at hSw); go_simp; (try with_reducible rfl); done))
                 simp only [Act.put, List.setIfInBounds_toArray, List.set_cons_zero, List.set_cons_succ]))
            refine Sched.sched_do (by rfl) fun K' hK => ?_
            go_simp
            go_at_call 18; refine HR2A.out.mono ?_; rintro e w8 ⟨a8, c8, rfl, hf8, hb8⟩
            have HB8 := Lib.hid (HB7.out.trans (hb8.mono HB7.out.size))
            have S8 := HSW.out _ HB8.out
            have HF8 := Lib.hid hf8
            have HR3A := HR3 w8 (B5.out _ HB8.out)
            clear HR2A hb8 hf8 HR3
            refine hK _ _ S8 ?_
            clear hK K'
            clear S7
            repeat (first
              | (refine Sched.sched_skip (by rfl) ?_; simp only [Act.put, List.setIfInBounds_toArray, List.set_cons_zero, List.set_cons_succ])
              | (refine Sched.sched_take (v := ?_) (by rfl) ?_ ?_
                 rotate_left
                 (focus (intro w' hSw; (try dsimp only at hSw); go_simp; (try with_reducible rfl); done))
                 simp only [Act.put, List.setIfInBounds_toArray, List.set_cons_zero, List.set_cons_succ]))
            refine Sched.sched_do (by rfl) fun K' hK => ?_
            go_simp
            go_at_call 19; refine HR3A.out.mono ?_; rintro e w9 ⟨a9, c9, rfl, hf9, rfl⟩
            have HS2A := HS2 w9 a8 a9 c8 c9 HF8.out hf9
            clear HR3A hf9 HS2
            refine hK _ _ S8 ?_
            clear hK K'
            repeat (first
              | (refine Sched.sched_skip (by rfl) ?_; simp only [Act.put, List.setIfInBounds_toArray, List.set_cons_zero, List.set_cons_succ])
              | (refine Sched.sched_take (v := ?_) (by rfl) ?_ ?_
                 rotate_left
                 (focus (intro w' hSw; (try dsimp only at hSw); go_simp; (try with_reducible rfl); done))
                 simp only [Act.put, List.setIfInBounds_toArray, List.set_cons_zero, List.set_cons_succ]))
            refine Sched.sched_do (by rfl) fun K' hK => ?_
            go_simp
            go_at_call 17; refine HS2A.out.mono ?_; rintro e w10 ⟨rfl, hb10⟩
            have HB10 := Lib.hid (HB8.out.trans (hb10.mono HB8.out.size))
            have S10 := HSW.out _ HB10.out
            have HSPA := Lib.hid (HSP1.out w10 (B5.out _ HB10.out))
            clear HS2A hb10
            refine hK _ _ S10 ?_
            clear hK K'
            as_aux_lemma => (
              clear S8
              repeat (first
                | (refine Sched.sched_skip (by rfl) ?_; simp only [Act.put, List.setIfInBounds_toArray, List.set_cons_zero, List.set_cons_succ])
                | (refine Sched.sched_take (v := ?_) (by rfl) ?_ ?_
                   rotate_left
                   (focus (intro w' hSw; (try dsimp only at hSw); go_simp; (try with_reducible rfl); done))
                   simp only [Act.put, List.setIfInBounds_toArray, List.set_cons_zero, List.set_cons_succ]))
              refine Sched.sched_do (by rfl) fun K' hK => ?_
              go_simp
              go_at_call 21; refine HSPA.out.mono ?_; rintro e w11 ⟨a11, c11, rfl, hf11, hb11⟩
              have HB11 := Lib.hid (HB10.out.trans (hb11.mono HB10.out.size))
              have S11 := HSW.out _ HB11.out
              have HF11 := Lib.hid hf11
              have HSPB := Lib.hid (HSP2.out w11 (B5.out _ HB11.out))
              clear HSPA hb11 hf11
              refine hK _ _ S11 ?_
              clear hK K'
              clear S10
              repeat (first
                | (refine Sched.sched_skip (by rfl) ?_; simp only [Act.put, List.setIfInBounds_toArray, List.set_cons_zero, List.set_cons_succ])
                | (refine Sched.sched_take (v := ?_) (by rfl) ?_ ?_
                   rotate_left
                   (focus (intro w' hSw; (try dsimp only at hSw); go_simp; (try with_reducible rfl); done))
                   simp only [Act.put, List.setIfInBounds_toArray, List.set_cons_zero, List.set_cons_succ]))
              refine Sched.sched_do (by rfl) fun K' hK => ?_
              go_simp
              go_at_call 22; refine HSPB.out.mono ?_; rintro e w12 ⟨a12, c12, rfl, hf12, hb12⟩
              have HB12 := Lib.hid (HB11.out.trans (hb12.mono HB11.out.size))
              have S12 := HSW.out _ HB12.out
              have HIA := HI w12 a11 a12 c11 c12 (flat_later HF11.out hb12) hf12
              clear HSPB hb12 hf12 HI
              refine hK _ _ S12 ?_
              clear hK K'
              clear S11
              repeat (first
                | (refine Sched.sched_skip (by rfl) ?_; simp only [Act.put, List.setIfInBounds_toArray, List.set_cons_zero, List.set_cons_succ])
                | (refine Sched.sched_take (v := ?_) (by rfl) ?_ ?_
                   rotate_left
                   (focus (intro w' hSw; (try dsimp only at hSw); go_simp; (try with_reducible rfl); done))
                   simp only [Act.put, List.setIfInBounds_toArray, List.set_cons_zero, List.set_cons_succ]))
              refine Sched.sched_do (by rfl) fun K' hK => ?_
              go_simp
              go_at_call 20; refine HIA.out.mono ?_; rintro e w13 ⟨rfl, hb13⟩
              have HB13 := Lib.hid (HB12.out.trans (hb13.mono HB12.out.size))
              have S13 := HSW.out _ HB13.out
              clear HIA hb13
              refine hK _ _ S13 ?_
              clear hK K'
              clear S12
              repeat (first
                | (refine Sched.sched_skip (by rfl) ?_; simp only [Act.put, List.setIfInBounds_toArray, List.set_cons_zero, List.set_cons_succ])
                | (refine Sched.sched_take (v := ?_) (by rfl) ?_ ?_
                   rotate_left
                   (focus (intro w' hSw; (try dsimp only at hSw); go_simp; (try with_reducible rfl); done))
                   simp only [Act.put, List.setIfInBounds_toArray, List.set_cons_zero, List.set_cons_succ]))
              refine Sched.sched_nil ?_
              have HDW := hDA _ (B5.out _ HB13.out)
              clear S13
              go_wp2_with fail
              exact ⟨⟨k + 1, by go_num, by omega, HDW.out⟩, by simp [intOf]; omega⟩)))
      · by_cases hneg : xf < 0
        · have HAt := Lib.hid (at_out (some ⟨p, 0, none⟩) xf w3 L2.length (fun w' hb => len_any p L2 rfl (hSK.out.1.later hb).sk) (by omega))
          have hf1 : decide (0 ≤ xf) = false := by simp; omega
          have hf2 : ¬ 0 ≤ xf := by omega
          clear hin hneg
          clear hSK
          obtain ⟨⟨e0, e1, e2, e3, e4, e5⟩, r0, r1, _, _⟩ := (HC _ (Below.refl _ _)).out
          go_wp2_with fail
          refine HAt.out.mono ?_
          rintro e w4 ⟨rfl, hb4⟩
          have hB := hb4.trans ((alloc_below w4 (Obj.cells #[.string ⟨#[]⟩, .int .i64 0] 32)).mono hb4.size)
          have k9 := Blk.new w4 32 #[.string ⟨#[]⟩, .int .i64 0]
          obtain ⟨w5, hw5⟩ : ∃ w5, w5 = w4.alloc (Obj.cells #[.string ⟨#[]⟩, .int .i64 0] 32) := ⟨_, rfl⟩
          rw [← hw5] at hB k9
          have hB1 := hB.trans ((drewB w5 1).mono hB.size)
          have HLenA := HLen w5.drew hB1; have HLevA := HLev w5.drew hB1; have HRLevA := HRLev w5.drew hB1; have HR1A := HR1 w5.drew hB1
          clear e0 e1 e2 e3 e4 e5 r0 r1 hb4 HAt HLen HLev HRLev HR1 hB1
          obtain ⟨⟨e0, e1, e2, e3, e4, e5⟩, r0, r1, _, _⟩ := (HC _ hB).out
          have hK9 := fun W (hb : Below w5.heap.size w5 W) => Lib.hid (facts2 (k9.later hb))
          go_wp2_with fail
          rw [← hw5]
          clear hw5
          skip
          have B5 : ∀ W, Below w5.heap.size w5 W → Below w3.heap.size w3 W := fun W hb => hB.trans (hb.mono hB.size)
          have HSW := Lib.hid (fun W (hb : Below w5.heap.size w5 W) => show W.cell? ⟨ab, 3, none⟩ = some (.int .i64 xl) ∧ W.cell? ⟨ab, 4, none⟩ = some (.int .i64 xf) ∧ W.cell? ⟨ab, 5, none⟩ = some (.int .i64 xt) ∧ W.cell? ⟨r, 0, none⟩ = some (.slice ra L2.length rc) from ⟨(HC W (B5 W hb)).out.1.2.2.2.1, (HC W (B5 W hb)).out.1.2.2.2.2.1, (HC W (B5 W hb)).out.1.2.2.2.2.2, (HC W (B5 W hb)).out.2.1⟩)
          have S0 := HSW.out _ (drewB w5 1)
          have B5 := Lib.hid B5
          have HB3 := Lib.hid hB
          clear hB HC hK9  e0 e1 e2 e3 e4 e5 r0 r1 k9
          simp only [List.append_eq, List.cons_append, List.nil_append]
          refine Sched.region_sched [(0, true), (1, true), (2, true), (3, true), (5, true), (6, true), (7, true), (8, true), (9, true), (4, false), (10, true), (11, true), (12, true), (13, true), (15, true), (14, false), (16, false), (17, true), (18, true), (19, true), (20, true), (21, true), (24, true), (25, true), (26, true), (27, true), (22, false), (23, false), (28, false), (29, true), (30, true), (31, true), (32, true), (33, true), (34, true), (35, true), (36, true), (38, true), (39, true), (40, true), (41, true), (42, true), (37, false), (43, false), (44, false), (45, true), (46, true), (47, true), (48, true), (49, true), (50, true), (52, true), (53, true), (54, true), (51, false), (55, false), (56, false), (57, true), (58, true), (59, true), (60, true), (61, true), (62, true), (63, true), (64, true), (65, true), (66, true), (67, true), (68, true), (69, true), (70, true), (71, true), (72, true), (73, true), (74, true), (75, true), (76, true), (77, true), (78, true), (79, true), (80, true), (81, true), (82, true), (83, true), (84, true), (85, true), (86, true), (87, true), (88, true), (89, true), (90, true)] (fun W => W.cell? ⟨ab, 3, none⟩ = some (.int .i64 xl) ∧ W.cell? ⟨ab, 4, none⟩ = some (.int .i64 xf) ∧ W.cell? ⟨ab, 5, none⟩ = some (.int .i64 xt) ∧ W.cell? ⟨r, 0, none⟩ = some (.slice ra L2.length rc)) (by kernel_rfl) (by kernel_rfl) rfl (by kernel_rfl) (fun _ _ _ d _ h => by cases d <;> exact h) S0 ?_
          intro L hL
          simp only [Sched.picks, List.getElem?_toArray, List.getElem?_cons_zero, List.getElem?_cons_succ] at hL
          subst hL
          repeat (first
            | (refine Sched.sched_skip (by rfl) ?_; simp only [Act.put, List.setIfInBounds_toArray, List.set_cons_zero, List.set_cons_succ])
            | (refine Sched.sched_take (v := ?_) (by rfl) ?_ ?_
               rotate_left
               (focus (intro w' hSw; (try dsimp only at hSw); go_simp; (try with_reducible rfl); done))
               simp only [Act.put, List.setIfInBounds_toArray, List.set_cons_zero, List.set_cons_succ]))
          refine Sched.sched_do (by rfl) fun K' hK => ?_
          go_simp
          go_at_call 14; refine HLenA.out.mono ?_; rintro e w6 ⟨rfl, rfl⟩
          refine hK _ _ S0 ?_
          clear hK K'
          repeat (first
            | (refine Sched.sched_skip (by rfl) ?_; simp only [Act.put, List.setIfInBounds_toArray, List.set_cons_zero, List.set_cons_succ])
            | (refine Sched.sched_take (v := ?_) (by rfl) ?_ ?_
               rotate_left
               (focus (intro w' hSw; (try dsimp only at hSw); go_simp; (try with_reducible rfl); done))
               simp only [Act.put, List.setIfInBounds_toArray, List.set_cons_zero, List.set_cons_succ]))
          refine Sched.sched_do (by rfl) fun K' hK => ?_
          go_simp
          go_at_call 15; refine HLevA.out.mono ?_; rintro e w6 ⟨rfl, rfl⟩
          refine hK _ _ S0 ?_
          clear hK K'
          as_aux_lemma => (
            repeat (first
              | (refine Sched.sched_skip (by rfl) ?_; simp only [Act.put, List.setIfInBounds_toArray, List.set_cons_zero, List.set_cons_succ])
              | (refine Sched.sched_take (v := ?_) (by rfl) ?_ ?_
                 rotate_left
                 (focus (intro w' hSw; (try dsimp only at hSw); go_simp; (try with_reducible rfl); done))
                 simp only [Act.put, List.setIfInBounds_toArray, List.set_cons_zero, List.set_cons_succ]))
            refine Sched.sched_do (by rfl) fun K' hK => ?_
            go_simp
            go_at_call 16; refine HRLevA.out.mono ?_; rintro e w6 ⟨rfl, rfl⟩
            refine hK _ _ S0 ?_
            clear hK K'
            repeat (first
              | (refine Sched.sched_skip (by rfl) ?_; simp only [Act.put, List.setIfInBounds_toArray, List.set_cons_zero, List.set_cons_succ])
              | (refine Sched.sched_take (v := ?_) (by rfl) ?_ ?_
                 rotate_left
                 (focus (intro w' hSw; (try dsimp only at hSw); go_simp; (try with_reducible rfl); done))
                 simp only [Act.put, List.setIfInBounds_toArray, List.set_cons_zero, List.set_cons_succ]))
            refine Sched.sched_do (by rfl) fun K' hK => ?_
            go_simp
            go_at_call 14; refine HLenA.out.mono ?_; rintro e w6 ⟨rfl, rfl⟩
            refine hK _ _ S0 ?_
            clear hK K'
            repeat (first
              | (refine Sched.sched_skip (by rfl) ?_; simp only [Act.put, List.setIfInBounds_toArray, List.set_cons_zero, List.set_cons_succ])
              | (refine Sched.sched_take (v := ?_) (by rfl) ?_ ?_
                 rotate_left
                 (focus (intro w' hSw; (try dsimp only at hSw); go_simp; (try with_reducible rfl); done))
                 simp only [Act.put, List.setIfInBounds_toArray, List.set_cons_zero, List.set_cons_succ]))
            refine Sched.sched_do (by rfl) fun K' hK => ?_
            go_simp
            go_at_call 18; refine HR1A.out.mono ?_; rintro e w6 ⟨a6, c6, rfl, hf6, hb6⟩
            have HB6 := Lib.hid ((drewB w5 1).trans hb6)
            have S6 := HSW.out _ HB6.out
            have HS1A := HS1 w6 a6 ra c6 rc hf6 (HFE w6 (B5.out _ HB6.out)).out
            clear HR1A HLenA HLevA HRLevA hb6 hf6 HS1 HFE
            refine hK _ _ S6 ?_
            clear hK K'
            as_aux_lemma => (
              clear S0
              repeat (first
                | (refine Sched.sched_skip (by rfl) ?_; simp only [Act.put, List.setIfInBounds_toArray, List.set_cons_zero, List.set_cons_succ])
                | (refine Sched.sched_take (v := ?_) (by rfl) ?_ ?_
                   rotate_left
                   (focus (intro w' hSw; (try dsimp only at hSw); go_simp; (try with_reducible rfl); done))
                   simp only [Act.put, List.setIfInBounds_toArray, List.set_cons_zero, List.set_cons_succ]))
              refine Sched.sched_do (by rfl) fun K' hK => ?_
              go_simp
              go_at_call 17; refine HS1A.out.mono ?_; rintro e w7 ⟨rfl, hb7⟩
              have HB7 := Lib.hid (HB6.out.trans (hb7.mono HB6.out.size))
              have S7 := HSW.out _ HB7.out
              have HR2A := HR2 w7 (B5.out _ HB7.out)
              clear HS1A hb7 HR2
              refine hK _ _ S7 ?_
              clear hK K'
              clear S6
              repeat (first
                | (refine Sched.sched_skip (by rfl) ?_; simp only [Act.put, List.setIfInBounds_toArray, List.set_cons_zero, List.set_cons_succ])
                | (refine Sched.sched_take (v := ?_) (by rfl) ?_ ?_
                   rotate_left
                   (focus (intro w' hSw; (try dsimp only at hSw); go_simp; (try with_reducible rfl); done))
                   simp only [Act.put, List.setIfInBounds_toArray, List.set_cons_zero, List.set_cons_succ]))
              refine Sched.sched_do (by rfl) fun K' hK => ?_
              go_simp
              go_at_call 18; refine HR2A.out.mono ?_; rintro e w8 ⟨a8, c8, rfl, hf8, hb8⟩
              have HB8 := Lib.hid (HB7.out.trans (hb8.mono HB7.out.size))
              have S8 := HSW.out _ HB8.out
              have HF8 := Lib.hid hf8
              have HR3A := HR3 w8 (B5.out _ HB8.out)
              clear HR2A hb8 hf8 HR3
              refine hK _ _ S8 ?_
              clear hK K'
              clear S7
              repeat (first
                | (refine Sched.sched_skip (by rfl) ?_; simp only [Act.put, List.setIfInBounds_toArray, List.set_cons_zero, List.set_cons_succ])
                | (refine Sched.sched_take (v := ?_) (by rfl) ?_ ?_
                   rotate_left
                   (focus (intro w' hSw; (try dsimp only at hSw); go_simp; (try with_reducible rfl); done))
                   simp only [Act.put, List.setIfInBounds_toArray, List.set_cons_zero, List.set_cons_succ]))
              refine Sched.sched_do (by rfl) fun K' hK => ?_
              go_simp
              go_at_call 19; refine HR3A.out.mono ?_; rintro e w9 ⟨a9, c9, rfl, hf9, rfl⟩
              have HS2A := HS2 w9 a8 a9 c8 c9 HF8.out hf9
              clear HR3A hf9 HS2
              refine hK _ _ S8 ?_
              clear hK K'
              repeat (first
                | (refine Sched.sched_skip (by rfl) ?_; simp only [Act.put, List.setIfInBounds_toArray, List.set_cons_zero, List.set_cons_succ])
                | (refine Sched.sched_take (v := ?_) (by rfl) ?_ ?_
                   rotate_left
                   (focus (intro w' hSw; (try dsimp only at hSw); go_simp; (try with_reducible rfl); done))
                   simp only [Act.put, List.setIfInBounds_toArray, List.set_cons_zero, List.set_cons_succ]))
              refine Sched.sched_do (by rfl) fun K' hK => ?_
              go_simp
              go_at_call 17; refine HS2A.out.mono ?_; rintro e w10 ⟨rfl, hb10⟩
              have HB10 := Lib.hid (HB8.out.trans (hb10.mono HB8.out.size))
              have S10 := HSW.out _ HB10.out
              have HSPA := Lib.hid (HSP1.out w10 (B5.out _ HB10.out))
              clear HS2A hb10
              refine hK _ _ S10 ?_
              clear hK K'
              as_aux_lemma => (
                clear S8
                repeat (first
                  | (refine Sched.sched_skip (by rfl) ?_; simp only [Act.put, List.setIfInBounds_toArray, List.set_cons_zero, List.set_cons_succ])
                  | (refine Sched.sched_take (v := ?_) (by rfl) ?_ ?_
                     rotate_left
                     (focus (intro w' hSw; (try dsimp only at hSw); go_simp; (try with_reducible rfl); done))
                     simp only [Act.put, List.setIfInBounds_toArray, List.set_cons_zero, List.set_cons_succ]))
                refine Sched.sched_do (by rfl) fun K' hK => ?_
                go_simp
                go_at_call 21; refine HSPA.out.mono ?_; rintro e w11 ⟨a11, c11, rfl, hf11, hb11⟩
                have HB11 := Lib.hid (HB10.out.trans (hb11.mono HB10.out.size))
                have S11 := HSW.out _ HB11.out
                have HF11 := Lib.hid hf11
                have HSPB := Lib.hid (HSP2.out w11 (B5.out _ HB11.out))
                clear HSPA hb11 hf11
                refine hK _ _ S11 ?_
                clear hK K'
                clear S10
                repeat (first
                  | (refine Sched.sched_skip (by rfl) ?_; simp only [Act.put, List.setIfInBounds_toArray, List.set_cons_zero, List.set_cons_succ])
                  | (refine Sched.sched_take (v := ?_) (by rfl) ?_ ?_
                     rotate_left
                     (focus (intro w' hSw; (try dsimp only at hSw); go_simp; (try with_reducible rfl); done))
                     simp only [Act.put, List.setIfInBounds_toArray, List.set_cons_zero, List.set_cons_succ]))
                refine Sched.sched_do (by rfl) fun K' hK => ?_
                go_simp
                go_at_call 22; refine HSPB.out.mono ?_; rintro e w12 ⟨a12, c12, rfl, hf12, hb12⟩
                have HB12 := Lib.hid (HB11.out.trans (hb12.mono HB11.out.size))
                have S12 := HSW.out _ HB12.out
                have HIA := HI w12 a11 a12 c11 c12 (flat_later HF11.out hb12) hf12
                clear HSPB hb12 hf12 HI
                refine hK _ _ S12 ?_
                clear hK K'
                clear S11
                repeat (first
                  | (refine Sched.sched_skip (by rfl) ?_; simp only [Act.put, List.setIfInBounds_toArray, List.set_cons_zero, List.set_cons_succ])
                  | (refine Sched.sched_take (v := ?_) (by rfl) ?_ ?_
                     rotate_left
                     (focus (intro w' hSw; (try dsimp only at hSw); go_simp; (try with_reducible rfl); done))
                     simp only [Act.put, List.setIfInBounds_toArray, List.set_cons_zero, List.set_cons_succ]))
                refine Sched.sched_do (by rfl) fun K' hK => ?_
                go_simp
                go_at_call 20; refine HIA.out.mono ?_; rintro e w13 ⟨rfl, hb13⟩
                have HB13 := Lib.hid (HB12.out.trans (hb13.mono HB12.out.size))
                have S13 := HSW.out _ HB13.out
                clear HIA hb13
                refine hK _ _ S13 ?_
                clear hK K'
                clear S12
                repeat (first
                  | (refine Sched.sched_skip (by rfl) ?_; simp only [Act.put, List.setIfInBounds_toArray, List.set_cons_zero, List.set_cons_succ])
                  | (refine Sched.sched_take (v := ?_) (by rfl) ?_ ?_
                     rotate_left
                     (focus (intro w' hSw; (try dsimp only at hSw); go_simp; (try with_reducible rfl); done))
                     simp only [Act.put, List.setIfInBounds_toArray, List.set_cons_zero, List.set_cons_succ]))
                refine Sched.sched_nil ?_
                have HDW := hDA _ (B5.out _ HB13.out)
                clear S13
                go_wp2_with fail
                exact ⟨⟨k + 1, by go_num, by omega, HDW.out⟩, by simp [intOf]; omega⟩)))
        · have HAt := Lib.hid (at_out (some ⟨p, 0, none⟩) xf w3 L2.length (fun w' hb => len_any p L2 rfl (hSK.out.1.later hb).sk) (by omega))
          have hf1 : 0 ≤ xf := by omega
          have hf2 : ¬ xf < (L2.length : Int) := by omega
          have hf3 : decide (0 ≤ xf) = true := by simp; omega
          have hf4 : decide (xf < (L2.length : Int)) = false := by simp; omega
          clear hin hneg
          clear hSK
          obtain ⟨⟨e0, e1, e2, e3, e4, e5⟩, r0, r1, _, _⟩ := (HC _ (Below.refl _ _)).out
          go_wp2_with fail
          refine HAt.out.mono ?_
          rintro e w4 ⟨rfl, hb4⟩
          have hB := hb4.trans ((alloc_below w4 (Obj.cells #[.string ⟨#[]⟩, .int .i64 0] 32)).mono hb4.size)
          have k9 := Blk.new w4 32 #[.string ⟨#[]⟩, .int .i64 0]
          obtain ⟨w5, hw5⟩ : ∃ w5, w5 = w4.alloc (Obj.cells #[.string ⟨#[]⟩, .int .i64 0] 32) := ⟨_, rfl⟩
          rw [← hw5] at hB k9
          have hB1 := hB.trans ((drewB w5 1).mono hB.size)
          have HLenA := HLen w5.drew hB1; have HLevA := HLev w5.drew hB1; have HRLevA := HRLev w5.drew hB1; have HR1A := HR1 w5.drew hB1
          clear e0 e1 e2 e3 e4 e5 r0 r1 hb4 HAt HLen HLev HRLev HR1 hB1
          obtain ⟨⟨e0, e1, e2, e3, e4, e5⟩, r0, r1, _, _⟩ := (HC _ hB).out
          have hK9 := fun W (hb : Below w5.heap.size w5 W) => Lib.hid (facts2 (k9.later hb))
          go_wp2_with fail
          rw [← hw5]
          clear hw5
          skip
          have B5 : ∀ W, Below w5.heap.size w5 W → Below w3.heap.size w3 W := fun W hb => hB.trans (hb.mono hB.size)
          have HSW := Lib.hid (fun W (hb : Below w5.heap.size w5 W) => show W.cell? ⟨ab, 3, none⟩ = some (.int .i64 xl) ∧ W.cell? ⟨ab, 4, none⟩ = some (.int .i64 xf) ∧ W.cell? ⟨ab, 5, none⟩ = some (.int .i64 xt) ∧ W.cell? ⟨r, 0, none⟩ = some (.slice ra L2.length rc) from ⟨(HC W (B5 W hb)).out.1.2.2.2.1, (HC W (B5 W hb)).out.1.2.2.2.2.1, (HC W (B5 W hb)).out.1.2.2.2.2.2, (HC W (B5 W hb)).out.2.1⟩)
          have S0 := HSW.out _ (drewB w5 1)
          have B5 := Lib.hid B5
          have HB3 := Lib.hid hB
          clear hB HC hK9  e0 e1 e2 e3 e4 e5 r0 r1 k9
          simp only [List.append_eq, List.cons_append, List.nil_append]
          refine Sched.region_sched [(0, true), (1, true), (2, true), (3, true), (5, true), (6, true), (7, true), (8, true), (9, true), (4, false), (10, true), (11, true), (12, true), (13, true), (15, true), (14, false), (16, false), (17, true), (18, true), (19, true), (20, true), (21, true), (24, true), (25, true), (26, true), (27, true), (22, false), (23, false), (28, false), (29, true), (30, true), (31, true), (32, true), (33, true), (34, true), (35, true), (36, true), (38, true), (39, true), (40, true), (41, true), (42, true), (37, false), (43, false), (44, false), (45, true), (46, true), (47, true), (48, true), (49, true), (50, true), (52, true), (53, true), (54, true), (51, false), (55, false), (56, false), (57, true), (58, true), (59, true), (60, true), (61, true), (62, true), (63, true), (64, true), (65, true), (66, true), (67, true), (68, true), (69, true), (70, true), (71, true), (72, true), (73, true), (74, true), (75, true), (76, true), (77, true), (78, true), (79, true), (80, true), (81, true), (82, true), (83, true), (84, true), (85, true), (86, true), (87, true), (88, true), (89, true), (90, true)] (fun W => W.cell? ⟨ab, 3, none⟩ = some (.int .i64 xl) ∧ W.cell? ⟨ab, 4, none⟩ = some (.int .i64 xf) ∧ W.cell? ⟨ab, 5, none⟩ = some (.int .i64 xt) ∧ W.cell? ⟨r, 0, none⟩ = some (.slice ra L2.length rc)) (by kernel_rfl) (by kernel_rfl) rfl (by kernel_rfl) (fun _ _ _ d _ h => by cases d <;> exact h) S0 ?_
          intro L hL
          simp only [Sched.picks, List.getElem?_toArray, List.getElem?_cons_zero, List.getElem?_cons_succ] at hL
          subst hL
          repeat (first
            | (refine Sched.sched_skip (by rfl) ?_; simp only [Act.put, List.setIfInBounds_toArray, List.set_cons_zero, List.set_cons_succ])
            | (refine Sched.sched_take (v := ?_) (by rfl) ?_ ?_
               rotate_left
               (focus (intro w' hSw; (try dsimp only at hSw); go_simp; (try with_reducible rfl); done))
               simp only [Act.put, List.setIfInBounds_toArray, List.set_cons_zero, List.set_cons_succ]))
          refine Sched.sched_do (by rfl) fun K' hK => ?_
          go_simp
          go_at_call 14; refine HLenA.out.mono ?_; rintro e w6 ⟨rfl, rfl⟩
          refine hK _ _ S0 ?_
          clear hK K'
          repeat (first
            | (refine Sched.sched_skip (by rfl) ?_; simp only [Act.put, List.setIfInBounds_toArray, List.set_cons_zero, List.set_cons_succ])
            | (refine Sched.sched_take (v := ?_) (by rfl) ?_ ?_
               rotate_left
               (focus (intro w' hSw; (try dsimp only at hSw); go_simp; (try with_reducible rfl); done))
               simp only [Act.put, List.setIfInBounds_toArray, List.set_cons_zero, List.set_cons_succ]))
          refine Sched.sched_do (by rfl) fun K' hK => ?_
          go_simp
          go_at_call 15; refine HLevA.out.mono ?_; rintro e w6 ⟨rfl, rfl⟩
          refine hK _ _ S0 ?_
          clear hK K'
          as_aux_lemma => (
            repeat (first
              | (refine Sched.sched_skip (by rfl) ?_; simp only [Act.put, List.setIfInBounds_toArray, List.set_cons_zero, List.set_cons_succ])
              | (refine Sched.sched_take (v := ?_) (by rfl) ?_ ?_
                 rotate_left
                 (focus (intro w' hSw; (try dsimp only at hSw); go_simp; (try with_reducible rfl); done))
                 simp only [Act.put, List.setIfInBounds_toArray, List.set_cons_zero, List.set_cons_succ]))
            refine Sched.sched_do (by rfl) fun K' hK => ?_
            go_simp
            go_at_call 16; refine HRLevA.out.mono ?_; rintro e w6 ⟨rfl, rfl⟩
            refine hK _ _ S0 ?_
            clear hK K'
            repeat (first
              | (refine Sched.sched_skip (by rfl) ?_; simp only [Act.put, List.setIfInBounds_toArray, List.set_cons_zero, List.set_cons_succ])
              | (refine Sched.sched_take (v := ?_) (by rfl) ?_ ?_
                 rotate_left
                 (focus (intro w' hSw; (try dsimp only at hSw); go_simp; (try with_reducible rfl); done))
                 simp only [Act.put, List.setIfInBounds_toArray, List.set_cons_zero, List.set_cons_succ]))
            refine Sched.sched_do (by rfl) fun K' hK => ?_
            go_simp
            go_at_call 14; refine HLenA.out.mono ?_; rintro e w6 ⟨rfl, rfl⟩
            refine hK _ _ S0 ?_
            clear hK K'
            repeat (first
              | (refine Sched.sched_skip (by rfl) ?_; simp only [Act.put, List.setIfInBounds_toArray, List.set_cons_zero, List.set_cons_succ])
              | (refine Sched.sched_take (v := ?_) (by rfl) ?_ ?_
                 rotate_left
                 (focus (intro w' hSw; (try dsimp only at hSw); go_simp; (try with_reducible rfl); done))
                 simp only [Act.put, List.setIfInBounds_toArray, List.set_cons_zero, List.set_cons_succ]))
            refine Sched.sched_do (by rfl) fun K' hK => ?_
            go_simp
            go_at_call 18; refine HR1A.out.mono ?_; rintro e w6 ⟨a6, c6, rfl, hf6, hb6⟩
            have HB6 := Lib.hid ((drewB w5 1).trans hb6)
            have S6 := HSW.out _ HB6.out
            have HS1A := HS1 w6 a6 ra c6 rc hf6 (HFE w6 (B5.out _ HB6.out)).out
            clear HR1A HLenA HLevA HRLevA hb6 hf6 HS1 HFE
            refine hK _ _ S6 ?_
            clear hK K'
            as_aux_lemma => (
              clear S0
              repeat (first
                | (refine Sched.sched_skip (by rfl) ?_; simp only [Act.put, List.setIfInBounds_toArray, List.set_cons_zero, List.set_cons_succ])
                | (refine Sched.sched_take (v := ?_) (by rfl) ?_ ?_
                   rotate_left
                   (focus (intro w' hSw; (try dsimp only at hSw); go_simp; (try with_reducible rfl); done))
                   simp only [Act.put, List.setIfInBounds_toArray, List.set_cons_zero, List.set_cons_succ]))
              refine Sched.sched_do (by rfl) fun K' hK => ?_
              go_simp
              go_at_call 17; refine HS1A.out.mono ?_; rintro e w7 ⟨rfl, hb7⟩
              have HB7 := Lib.hid (HB6.out.trans (hb7.mono HB6.out.size))
              have S7 := HSW.out _ HB7.out
              have HR2A := HR2 w7 (B5.out _ HB7.out)
              clear HS1A hb7 HR2
              refine hK _ _ S7 ?_
              clear hK K'
              clear S6
              repeat (first
                | (refine Sched.sched_skip (by rfl) ?_; simp only [Act.put, List.setIfInBounds_toArray, List.set_cons_zero, List.set_cons_succ])
                | (refine Sched.sched_take (v := ?_) (by rfl) ?_ ?_
                   rotate_left
                   (focus (intro w' hSw; (try dsimp only at hSw); go_simp; (try with_reducible rfl); done))
                   simp only [Act.put, List.setIfInBounds_toArray, List.set_cons_zero, List.set_cons_succ]))
              refine Sched.sched_do (by rfl) fun K' hK => ?_
              go_simp
              go_at_call 18; refine HR2A.out.mono ?_; rintro e w8 ⟨a8, c8, rfl, hf8, hb8⟩
              have HB8 := Lib.hid (HB7.out.trans (hb8.mono HB7.out.size))
              have S8 := HSW.out _ HB8.out
              have HF8 := Lib.hid hf8
              have HR3A := HR3 w8 (B5.out _ HB8.out)
              clear HR2A hb8 hf8 HR3
              refine hK _ _ S8 ?_
              clear hK K'
              clear S7
              repeat (first
                | (refine Sched.sched_skip (by rfl) ?_; simp only [Act.put, List.setIfInBounds_toArray, List.set_cons_zero, List.set_cons_succ])
                | (refine Sched.sched_take (v := ?_) (by rfl) ?_ ?_
                   rotate_left
                   (focus (intro w' hSw; (try dsimp only at hSw); go_simp; (try with_reducible rfl); done))
                   simp only [Act.put, List.setIfInBounds_toArray, List.set_cons_zero, List.set_cons_succ]))
              refine Sched.sched_do (by rfl) fun K' hK => ?_
              go_simp
              go_at_call 19; refine HR3A.out.mono ?_; rintro e w9 ⟨a9, c9, rfl, hf9, rfl⟩
              have HS2A := HS2 w9 a8 a9 c8 c9 HF8.out hf9
              clear HR3A hf9 HS2
              refine hK _ _ S8 ?_
              clear hK K'
              repeat (first
                | (refine Sched.sched_skip (by rfl) ?_; simp only [Act.put, List.setIfInBounds_toArray, List.set_cons_zero, List.set_cons_succ])
                | (refine Sched.sched_take (v := ?_) (by rfl) ?_ ?_
                   rotate_left
                   (focus (intro w' hSw; (try dsimp only at hSw); go_simp; (try with_reducible rfl); done))
                   simp only [Act.put, List.setIfInBounds_toArray, List.set_cons_zero, List.set_cons_succ]))
              refine Sched.sched_do (by rfl) fun K' hK => ?_
              go_simp
              go_at_call 17; refine HS2A.out.mono ?_; rintro e w10 ⟨rfl, hb10⟩
              have HB10 := Lib.hid (HB8.out.trans (hb10.mono HB8.out.size))
              have S10 := HSW.out _ HB10.out
              have HSPA := Lib.hid (HSP1.out w10 (B5.out _ HB10.out))
              clear HS2A hb10
              refine hK _ _ S10 ?_
              clear hK K'
              as_aux_lemma => (
                clear S8
                repeat (first
                  | (refine Sched.sched_skip (by rfl) ?_; simp only [Act.put, List.setIfInBounds_toArray, List.set_cons_zero, List.set_cons_succ])
                  | (refine Sched.sched_take (v := ?_) (by rfl) ?_ ?_
                     rotate_left
                     (focus (intro w' hSw; (try dsimp only at hSw); go_simp; (try with_reducible rfl); done))
                     simp only [Act.put, List.setIfInBounds_toArray, List.set_cons_zero, List.set_cons_succ]))
                refine Sched.sched_do (by rfl) fun K' hK => ?_
                go_simp
                go_at_call 21; refine HSPA.out.mono ?_; rintro e w11 ⟨a11, c11, rfl, hf11, hb11⟩
                have HB11 := Lib.hid (HB10.out.trans (hb11.mono HB10.out.size))
                have S11 := HSW.out _ HB11.out
                have HF11 := Lib.hid hf11
                have HSPB := Lib.hid (HSP2.out w11 (B5.out _ HB11.out))
                clear HSPA hb11 hf11
                refine hK _ _ S11 ?_
                clear hK K'
                clear S10
                repeat (first
                  | (refine Sched.sched_skip (by rfl) ?_; simp only [Act.put, List.setIfInBounds_toArray, List.set_cons_zero, List.set_cons_succ])
                  | (refine Sched.sched_take (v := ?_) (by rfl) ?_ ?_
                     rotate_left
                     (focus (intro w' hSw; (try dsimp only at hSw); go_simp; (try with_reducible rfl); done))
                     simp only [Act.put, List.setIfInBounds_toArray, List.set_cons_zero, List.set_cons_succ]))
                refine Sched.sched_do (by rfl) fun K' hK => ?_
                go_simp
                go_at_call 22; refine HSPB.out.mono ?_; rintro e w12 ⟨a12, c12, rfl, hf12, hb12⟩
                have HB12 := Lib.hid (HB11.out.trans (hb12.mono HB11.out.size))
                have S12 := HSW.out _ HB12.out
                have HIA := HI w12 a11 a12 c11 c12 (flat_later HF11.out hb12) hf12
                clear HSPB hb12 hf12 HI
                refine hK _ _ S12 ?_
                clear hK K'
                clear S11
                repeat (first
                  | (refine Sched.sched_skip (by rfl) ?_; simp only [Act.put, List.setIfInBounds_toArray, List.set_cons_zero, List.set_cons_succ])
                  | (refine Sched.sched_take (v := ?_) (by rfl) ?_ ?_
                     rotate_left
                     (focus (intro w' hSw; (try dsimp only at hSw); go_simp; (try with_reducible rfl); done))
                     simp only [Act.put, List.setIfInBounds_toArray, List.set_cons_zero, List.set_cons_succ]))
                refine Sched.sched_do (by rfl) fun K' hK => ?_
                go_simp
                go_at_call 20; refine HIA.out.mono ?_; rintro e w13 ⟨rfl, hb13⟩
                have HB13 := Lib.hid (HB12.out.trans (hb13.mono HB12.out.size))
                have S13 := HSW.out _ HB13.out
                clear HIA hb13
                refine hK _ _ S13 ?_
                clear hK K'
                clear S12
                repeat (first
                  | (refine Sched.sched_skip (by rfl) ?_; simp only [Act.put, List.setIfInBounds_toArray, List.set_cons_zero, List.set_cons_succ])
                  | (refine Sched.sched_take (v := ?_) (by rfl) ?_ ?_
                     rotate_left
                     (focus (intro w' hSw; (try dsimp only at hSw); go_simp; (try with_reducible rfl); done))
                     simp only [Act.put, List.setIfInBounds_toArray, List.set_cons_zero, List.set_cons_succ]))
                refine Sched.sched_nil ?_
                have HDW := hDA _ (B5.out _ HB13.out)
                clear S13
                go_wp2_with fail
                exact ⟨⟨k + 1, by go_num, by omega, HDW.out⟩, by simp [intOf]; omega⟩)))
    · have HFN := Lib.hid hM.below
      clear hM
      by_cases hl : k < l.length
      · have h120 : ¬ (k : Int) < 120 := by omega
        have hl2 : (k : Int) < l.length := by omega
        go_wp2_with fail
        go_returns
        exact ⟨rfl, HFN.out⟩
      · have hl2 : ¬ (k : Int) < l.length := by omega
        go_wp2_with fail
        go_returns
        exact ⟨rfl, HFN.out⟩
end Go.Proofs.Ytidiaomeahoapaa
