/- The first sets, cut short. -/
import Derived.Test.YtjilfgkoibbcnaaDoorRefSort
import Derived.Test.YtjilfgkoibbcnaaDoorSched
import Derived.Test.YtjilfgkoibbcnaaDoorThru
namespace Go.Proofs.YtjilfgkoibbcnaaDoor
open Go.RowKit Go.Shelf
attribute [local go_sem] Oper.semAt_some

def cutM (m : ByteArray) : ByteArray := m.extract 0 (min m.size 10)
def cutE (e : Ent) : Ent := (cutM e.1, e.2)
def fewL (l : List Ent) : List Ent := (l.take 30).map cutE
def fewOne (b : Bool) (l : List Ent) : List Ent := if b then sortP (fewL l) else fewL l
def fewP (b : Bool) (ls : List (List Ent)) : List (List Ent) := (ls.take 6).map (fewOne b)

/-- Sets in memory of one's own. -/
def SetsO (W : World) (n0 : Nat) (v : Value) (ls : List (List Ent)) : Prop :=
  ∃ vs, OwnS W n0 v vs ∧ vs.length = ls.length ∧ ∀ (k : Nat) (h : k < ls.length), ∃ u, vs[k]? = some u ∧ Own W n0 u ls[k]
theorem SetsO.later {W W' : World} {n0 : Nat} {v : Value} {ls : List (List Ent)} (h : SetsO W n0 v ls) (hb : Below W.heap.size W W') : SetsO W' n0 v ls := by
  obtain ⟨vs, h1, h2, h3⟩ := h
  refine ⟨vs, own_later h1 hb, h2, fun k hk => ?_⟩
  obtain ⟨u, h4, h5⟩ := h3 k hk
  exact ⟨u, h4, own_later h5 hb⟩
theorem SetsO.mono {W : World} {n0 n1 : Nat} {v : Value} {ls : List (List Ent)} (h : SetsO W n0 v ls) (hb : n1 ≤ n0) : SetsO W n1 v ls := by
  obtain ⟨vs, h1, h2, h3⟩ := h
  refine ⟨vs, own_mono h1 hb, h2, fun k hk => ?_⟩
  obtain ⟨u, h4, h5⟩ := h3 k hk
  exact ⟨u, h4, own_mono h5 hb⟩
/-- A list of one's own stays when a slice of slices grows. -/
theorem own_other {W W' : World} {n0 n1 : Nat} {r u : Value} {vs : List Value} {l : List Ent} (hr : OwnS W n0 r vs) (hu : Own W n1 u l) (hg : W.grownBy W' r.ownBlock) : Own W' n1 u l :=
  World.ownsRow.kept hu hg (by
    rcases hu.2 with ⟨rfl, _⟩ | ⟨g, cap, cur, rfl, _, hgb, _⟩
    · exact .inl rfl
    · refine .inr (fun e => ?_)
      rcases hr.2 with ⟨rfl, _⟩ | ⟨g', cap', cur', rfl, _, hgb', _⟩
      · cases e
      · cases e
        rw [hgb] at hgb'
        simp at hgb')
theorem SetsO.slice {W : World} {n0 : Nat} {v : Value} {ls : List (List Ent)} (h : SetsO W n0 v ls) : ∃ a cap, v = .slice a ls.length cap ∧ Sets W a ls ∧ ls.length ≤ cap ∧ cap ≤ maxLen := by
  obtain ⟨vs, h1, h2, h3⟩ := h
  rcases h1.2 with ⟨rfl, h0⟩ | ⟨g, cap, cur, rfl, _, hb, hc, hm, hlen, hx⟩
  · refine ⟨none, 0, by rw [← h2, h0], fun k hk => by omega, by omega, by unfold maxLen; omega⟩
  · refine ⟨some ⟨g, 0, none⟩, cap, by rw [h2], fun k hk => ?_, by omega, hm⟩
    obtain ⟨u, h4, h5⟩ := h3 k hk
    refine ⟨g, 0, cur, u, rfl, hb, ?_, own_mono h5 (Nat.zero_le _)⟩
    rw [← hx, List.getElem?_take_of_lt (by omega)] at h4
    simpa [Array.getElem?_toList] using h4

theorem SetsO.app {W W8 : World} {n0 : Nat} {r r8 u : Value} {vs : List Value} {L : List (List Ent)} {l : List Ent} (hr : OwnS W n0 r vs) (hn : vs.length = L.length) (he : ∀ (k : Nat) (h : k < L.length), ∃ x, vs[k]? = some x ∧ Own W n0 x L[k]) (hu : Own W n0 u l)
    (h8 : OwnS W8 n0 r8 (vs ++ [u])) (hg : W.grownBy W8 r.ownBlock) : SetsO W8 n0 r8 (L ++ [l]) := by
  refine ⟨vs ++ [u], h8, by simp [hn], fun k hk => ?_⟩
  by_cases h : k < L.length
  · obtain ⟨x, h1, h2⟩ := he k h
    refine ⟨x, by rw [List.getElem?_append_left (by omega)]; exact h1, ?_⟩
    rw [List.getElem_append_left h]
    exact own_other hr h2 hg
  · obtain rfl : k = L.length := by simp at hk; omega
    refine ⟨u, by rw [← hn]; simp, ?_⟩
    rw [List.getElem_append_right (Nat.le_refl _)]
    simpa using own_other hr hu hg
theorem wp_append_ran {P : Program} {o : Oper} {a : Act} {w w' : World} {K : Act → World → Prop} {Q : Exit → Act → World → Prop} {v xv v' : Value} (s x : Operand) (t u : TypeId)
    (ho : o.op = Op.call { callee := Callee.builtin Builtin.append, args := #[s, x], argTypes := #[t, u] }) (hs : a.eval s = v) (hx : a.eval x = xv) (hrun : (Builtin.append_ #[t, u] o.type #[v, xv]).run P w = .ok v' w')
    (h : K (a.put o.dst v') w') : o.wp P a w K Q := by
  unfold Oper.wp
  simp [execOp, ho, resolve, invoke, builtin, hs, hx, hrun, Result.andThen]
  exact h

theorem slice_to (s : ByteArray) (c : Int) (h0 : 0 ≤ c) (h1 : c ≤ s.size) (W : World) : (Instr.slice 9 (.string s) none (some (.int .i64 c)) none).run Tryd.prog W = .ok (.string (s.extract 0 c.toNat)) W := by
  have hc : 0 ≤ c ∧ c ≤ (s.size : Int) := ⟨h0, h1⟩
  simp [Instr.slice, Instr.sliceBounds, Instr.sliceBound, asIntOf, run_underlying Tryd.underlying9, hc]
/-- Sets that came in: they may lie anywhere. -/
def SetsE (W : World) (a : Option Addr) (ls : List (List Ent)) : Prop :=
  ∀ (k : Nat) (h : k < ls.length), ∃ g off ar cr, a = some ⟨g, off, none⟩ ∧ W.cell? ⟨g, off + k, none⟩ = some (.slice ar ls[k].length cr) ∧ Ents W ar ls[k]
theorem SetsE.later {W W' : World} {a : Option Addr} {ls : List (List Ent)} (h : SetsE W a ls) (hb : Below W.heap.size W W') : SetsE W' a ls := fun k hk => by
  obtain ⟨g, off, ar, cr, h1, h2, h3⟩ := h k hk
  exact ⟨g, off, ar, cr, h1, (hb.cell (p := ⟨g, _, none⟩) (World.block_lt_of_cell? W ⟨g, _, none⟩ h2)).trans h2, h3.below hb⟩
theorem Sets.e {W : World} {a : Option Addr} {ls : List (List Ent)} (h : Sets W a ls) : SetsE W a ls := fun k hk => by
  obtain ⟨g, off, c, v, h1, h2, h3, h4⟩ := h k hk
  obtain ⟨ar, cr, rfl, hE, _⟩ := h4.slice
  exact ⟨g, off, ar, cr, h1, by simp [World.cell?, h2, h3], hE⟩
structure LoadsF (g o b q : Nat) (sv : Value) (m : ByteArray) (sc : Int) (W : World) : Prop where
  l0 : W.cell? ⟨g, o, none⟩ = some sv
  l1 : W.cell? ⟨b, q, none⟩ = some (.string m)
  l2 : W.cell? ⟨b, q + 1, none⟩ = some (.int .i64 sc)

set_option maxRecDepth 100000 in
set_option maxHeartbeats 2000000 in
theorem few_any (b : Bool) (ls : List (List Ent)) (hls : ls.length ≤ 9223372036854775807) (hl0 : ∀ l ∈ ls, l.length ≤ 9223372036854775807 ∧ ∀ e ∈ l, e.1.size ≤ 9223372036854775807) (a : Option Addr) (cap : Nat) (w : World) (hS : SetsE w a ls) :
    Calls Tryd.prog 11 #[.slice a ls.length cap, .bool b] w fun e w' => ∃ r, e = .returned r ∧ SetsO w' w.heap.size r (fewP b ls) ∧ Below w.heap.size w w' := by
  have HS := Lib.hid hS
  have HL := Lib.hid hl0
  clear hS hl0
  go_enter Tryd.func11, Tryd.ntmps11
  go_wp2
  go_loopw [5, 6] (fun v i wr => ∃ (k : Nat), i = .int .i64 k ∧ k ≤ ls.length ∧ k ≤ 6 ∧ SetsO wr w.heap.size v ((ls.take k).map (fewOne b)) ∧ Below w.heap.size w wr) (fun _ i _ => ls.length - (intOf i).toNat)
  case atStart => exact ⟨0, rfl, by omega, by omega, ⟨[], ⟨rfl, .inl ⟨rfl, rfl⟩⟩, rfl, fun k h => by simp at h⟩, Below.refl _ _⟩
  case round =>
    obtain ⟨k, rfl, hk, hk6, hO, hb⟩ := hrel
    by_cases hlt : k < ls.length ∧ k < 6
    · obtain ⟨hlt, hlt6⟩ := hlt
      obtain ⟨g, off, ar, cr, rfl, hcell, hEr⟩ := (HS.out.later hb) k hlt
      have hgw : g < w.heap.size := by
        obtain ⟨g', off', _, _, h1, h2, _⟩ := HS.out k hlt
        cases h1
        exact World.block_lt_of_cell? w ⟨g, _, none⟩ h2
      have hlt2 : (k : Int) < ls.length := by omega
      have hlt7 : (k : Int) < 6 := by omega
      obtain ⟨hln, hz⟩ := HL.out _ (List.getElem_mem hlt)
      have hnx : (ls.take (k + 1)).map (fewOne b) = (ls.take k).map (fewOne b) ++ [fewOne b ls[k]] := by
        rw [List.take_succ_eq_append_getElem hlt, List.map_append]; rfl
      have HNX := Lib.hid hnx
      have HO := Lib.hid hO
      have HB := Lib.hid hb
      have HC := Lib.hid hcell
      have HZ := Lib.hid hz
      have HER := Lib.hid hEr
      have HEW : Hid (∀ i (h : i < ls[k].length), ∃ b2 o2, ar = some ⟨b2, o2, none⟩ ∧ b2 < wr.heap.size) := Lib.hid fun i h => by
        obtain ⟨b2, o2, h1, h2, _⟩ := hEr i h
        exact ⟨b2, o2, h1, World.block_lt_of_cell? _ ⟨b2, _, none⟩ h2⟩
      generalize ls[k] = l at *
      clear hnx hO hb hcell hz hEr
      go_wp2
      rename World => w1
      go_loopw [7, 8] (fun v i w2 => ∃ (j : Nat), i = .int .i64 j ∧ j ≤ l.length ∧ j ≤ 30 ∧ Own w2 w1.heap.size v ((l.take j).map cutE) ∧ Below w1.heap.size w1 w2) (fun _ i _ => l.length - (intOf i).toNat)
      case atStart => exact ⟨0, rfl, by omega, by omega, own_nil _ _, Below.refl _ _⟩
      case round =>
        obtain ⟨j, rfl, hj, hj30, hX, hb2⟩ := hrel
        have hc2 := (hb2.cell (p := ⟨g, _, none⟩) (World.block_lt_of_cell? _ ⟨g, _, none⟩ HC.out)).trans HC.out
        by_cases hjl : j < l.length ∧ j < 30
        · obtain ⟨hjl, hjl30⟩ := hjl
          obtain ⟨b2, o2, rfl, c0, c1⟩ := (HER.out.below hb2) j hjl
          obtain ⟨b3, o3, he3, hbw⟩ := HEW.out j hjl
          cases he3
          have hjl2 : (j : Int) < l.length := by omega
          have hjl3 : (j : Int) < 30 := by omega
          have hmz := HZ.out _ (List.getElem_mem hjl)
          have hnx2 : (l.take (j + 1)).map cutE = (l.take j).map cutE ++ [cutE l[j]] := by
            rw [List.take_succ_eq_append_getElem hjl, List.map_append]; rfl
          have HNX2 := Lib.hid hnx2
          have HX := Lib.hid hX
          have HB2 := Lib.hid hb2
          have hgr : g < w1.heap.size := by have := HB.out.size; omega
          generalize l[j] = e at *
          obtain ⟨m, sc⟩ := e
          simp only at c0 c1 hmz
          have S0 : LoadsF g (off + k) b2 (o2 + j * 2) (.slice (some ⟨b2, o2, none⟩) l.length cr) m sc wr.drew := ⟨hc2, c0, c1⟩
          have hL2 := HB2.out.size
          clear hnx2 hX hb2 c0 c1
          go_wp2_with fail
          refine Sched.region_sched [(0, true), (1, true), (2, true), (3, true), (4, true), (5, true), (6, true), (7, true), (8, true), (9, true), (10, true), (11, true), (12, true), (13, true), (14, true), (15, true), (16, true), (17, true), (18, true), (19, true), (20, true), (21, true), (22, true), (23, true), (24, true), (25, true), (26, true), (27, true), (28, true), (29, false), (30, false), (31, true)]
            (LoadsF g (off + k) b2 (o2 + j * 2) (.slice (some ⟨b2, o2, none⟩) l.length cr) m sc) (by kernel_rfl) (by kernel_rfl) rfl (by kernel_rfl) (fun _ _ _ d _ h => by cases d <;> exact h) S0 ?_
          intro L hL
          simp only [Sched.picks, List.getElem?_toArray, List.getElem?_cons_zero, List.getElem?_cons_succ] at hL
          subst hL
          repeat (first
            | (refine Sched.sched_take (v := ?_) (by rfl) ?_ ?_
               rotate_left
               (focus (intro w' hSw; obtain ⟨l0, l1, l2⟩ := hSw; go_simp; (try with_reducible rfl); done))
               simp only [Act.put, List.setIfInBounds_toArray, List.set_cons_zero, List.set_cons_succ]))
          refine Sched.sched_take (v := .string (cutM m)) (by rfl) (fun w' hSw => ?_) ?_
          · go_simp
            have h1 : 0 ≤ min (m.size : Int) 10 ∧ min (m.size : Int) 10 ≤ m.size := by omega
            rw [if_pos h1, show (min (m.size : Int) 10).toNat = min m.size 10 by omega]
            rfl
          simp only [Act.put, List.setIfInBounds_toArray, List.set_cons_zero, List.set_cons_succ]
          repeat (first
            | (refine Sched.sched_take (v := ?_) (by rfl) ?_ ?_
               rotate_left
               (focus (intro w' hSw; obtain ⟨l0, l1, l2⟩ := hSw; go_simp; (try with_reducible rfl); done))
               simp only [Act.put, List.setIfInBounds_toArray, List.set_cons_zero, List.set_cons_succ]))
          refine Sched.sched_do (by rfl) fun K' hK => ?_
          go_simp
          have HXd := Lib.hid (show Own wr.drew w1.heap.size u7 ((l.take j).map cutE) from HX.out)
          obtain ⟨g3, cap3, W7, hrun, hO7, hg7⟩ := app_ent HXd.out (Below.refl _ _) (cutE (m, sc)) (by simp; omega) (show w1.heap.size ≤ wr.drew.heap.size from hL2)
          have S1 : LoadsF g (off + k) b2 (o2 + j * 2) (.slice (some ⟨b2, o2, none⟩) l.length cr) m sc (wr.drew.alloc (.cells #[.string (cutE (m, sc)).1, .int .i64 (cutE (m, sc)).2] 38)) := by
            have hb := alloc_below wr.drew (.cells #[.string (cutE (m, sc)).1, .int .i64 (cutE (m, sc)).2] 38)
            have k := fun {p : Addr} {v : Value} (h : wr.drew.cell? p = some v) => (hb.cell (p := p) (World.block_lt_of_cell? _ p h)).trans h
            exact ⟨k S0.l0, k S0.l1, k S0.l2⟩
          have hfr := fun (k : Nat) (e : u7.ownBlock = some k) => World.ownsRow.lt HXd.out k e
          have S2 : LoadsF g (off + k) b2 (o2 + j * 2) (.slice (some ⟨b2, o2, none⟩) l.length cr) m sc W7 :=
            ⟨hg7.cell S1.l0 (fun e => by have := (hfr _ e.symm).1; simp only at this; omega), hg7.cell S1.l1 (fun e => by have := (hfr _ e.symm).1; simp only at this; omega), hg7.cell S1.l2 (fun e => by have := (hfr _ e.symm).1; simp only at this; omega)⟩
          have hb7 : Below w1.heap.size w1 W7 := by
            have h0 : Below w1.heap.size w1 wr.drew := HB2.out.drew
            exact (h0.alloc h0.size _).grown hg7 (h0.alloc h0.size _).size (fun k e => (hfr k e).1)
          have HB7 := Lib.hid hb7
          have HO7 := Lib.hid hO7
          clear hb7 hO7 hg7 hfr
          refine hK _ _ S1 ?_
          clear hK K'
          refine Sched.sched_do (by rfl) fun K' hK => ?_
          refine wp_append_ran (.tmp 32) (.tmp 61) 26 26 rfl rfl rfl hrun ?_
          go_simp
          refine hK _ _ S2 ?_
          clear hK K'
          refine Sched.sched_take (v := .slice (some ⟨g3, 0, none⟩) (((l.take j).map cutE).length + 1) cap3) (by rfl) (fun w' _ => by go_simp) ?_
          simp only [Act.put, List.setIfInBounds_toArray, List.set_cons_zero, List.set_cons_succ]
          refine Sched.sched_nil ?_
          clear S0 S1 S2 hrun hc2
          go_wp2
          refine ⟨⟨j + 1, by go_num, by omega, by omega, ?_, HB7.out⟩, by simp [intOf]; omega⟩
          rw [HNX2.out]
          exact HO7.out
        · have hx := Lib.hid (show (l.take j).map cutE = fewL l by
            unfold fewL
            by_cases h : j < l.length
            · rw [show j = 30 by omega]
            · rw [show j = l.length by omega, List.take_of_length_le (Nat.le_refl _), List.take_of_length_le (by omega)])
          have hX2 := hX
          rw [hx.out] at hX2
          have HX := Lib.hid hX2
          have HB2 := Lib.hid hb2
          have hend : (l.length : Int) ≤ j ∨ ((j : Int) < l.length ∧ (30 : Int) ≤ j) := by omega
          have hflen : (fewL l).length ≤ 30 := by unfold fewL; rw [List.length_map, List.length_take]; omega
          have hfz : ∀ e ∈ fewL l, e.1.size ≤ 1000000 := fun e he => by
            unfold fewL at he
            obtain ⟨x, _, rfl⟩ := List.mem_map.1 he
            show (x.1.extract 0 (min x.1.size 10)).size ≤ 1000000
            rw [ByteArray.size_extract]
            omega
          have HOL := Lib.hid (HO.out.later hb2)
          have hvl : ((ls.take k).map (fewOne b)).length = k := by rw [List.length_map, List.length_take]; omega
          clear hX hX2 hb2 hx hjl
          have hwn : w.heap.size ≤ wr.heap.size := Nat.le_trans HB.out.size HB2.out.size
          have HBW := Lib.hid (HB.out.trans (HB2.out.mono HB.out.size))
          have HXm := Lib.hid (own_mono HX.out HB.out.size)
          obtain ⟨ax, cx, rfl, hEx, _, _, _⟩ := Own.slice HX.out
          rcases hend with hend | ⟨hend, hend2⟩
          all_goals (
            cases b with
            | false =>
              obtain ⟨vs, hOS, hvs, hel⟩ := HOL.out
              have HEL := Lib.hid hel
              have hb9 := alloc_below wr (Obj.cells #[Value.slice ax (fewL l).length cx] 26)
              obtain ⟨g4, cap4, W8, hrun4, hO8, hg8⟩ := app_slice hOS (Below.refl _ _) (.slice ax (fewL l).length cx) (by simp [Value.oneCell']) (by omega) hwn
              have HS8 := Lib.hid (SetsO.app (own_later hOS hb9) hvs (fun k hk => by obtain ⟨x, h1, h2⟩ := HEL.out k hk; exact ⟨x, h1, own_later h2 hb9⟩) (own_later HXm.out hb9) hO8 hg8)
              have hOS9 := own_later hOS hb9
              have HB8 := Lib.hid ((HBW.out.alloc hwn _).grown hg8 (HBW.out.alloc hwn _).size (fun k e => (World.ownsRow.lt hOS9 k e).1))
              clear hel hEx hb9 hO8 hg8 hOS9
              go_wp2_with (
                at_builtin
                refine wpList_append_ran rfl (.tmp 66) (.tmp 68) 22 22 rfl rfl rfl hrun4 ?_)
              refine ⟨⟨k + 1, by go_num, by omega, by omega, ?_, HB8.out⟩, by simp [intOf]; omega⟩
              have h8 := HS8.out
              rw [hvs.trans hvl] at h8
              rw [HNX.out]
              exact h8
            | true =>
              have HSo := Lib.hid (refSort_any ax cx (fewL l) (by omega) hfz wr hEx)
              clear hEx
              go_wp2_with fail
              refine HSo.out.mono ?_
              rintro e w3 ⟨u, rfl, hOu, hb3⟩
              obtain ⟨vs, hOS, hvs, hel⟩ := HOL.out
              have hwn3 : w.heap.size ≤ w3.heap.size := Nat.le_trans hwn hb3.size
              have HBW3 := Lib.hid (HBW.out.trans (hb3.mono hwn))
              have hOS3 := own_later hOS hb3
              have HEL := Lib.hid (show ∀ (i : Nat) (hi : i < ((ls.take k).map (fewOne true)).length), ∃ x, vs[i]? = some x ∧ Own w3 w.heap.size x ((ls.take k).map (fewOne true))[i] from fun i hi => by obtain ⟨x, h1, h2⟩ := hel i hi; exact ⟨x, h1, own_later h2 hb3⟩)
              obtain ⟨au, cu, rfl, _, _, _, _⟩ := Own.slice hOu
              have hOum := own_mono hOu hwn
              have hb9 := alloc_below w3 (Obj.cells #[Value.slice au (sortP (fewL l)).length cu] 26)
              obtain ⟨g4, cap4, W8, hrun4, hO8, hg8⟩ := app_slice hOS3 (Below.refl _ _) (.slice au (sortP (fewL l)).length cu) (by simp [Value.oneCell']) (by omega) hwn3
              have HS8 := Lib.hid (SetsO.app (own_later hOS3 hb9) hvs (fun k hk => by obtain ⟨x, h1, h2⟩ := HEL.out k hk; exact ⟨x, h1, own_later h2 hb9⟩) (own_later hOum hb9) hO8 hg8)
              have hOS9 := own_later hOS3 hb9
              have HB8 := Lib.hid ((HBW3.out.alloc hwn3 _).grown hg8 (HBW3.out.alloc hwn3 _).size (fun k e => (World.ownsRow.lt hOS9 k e).1))
              clear hel hb9 hO8 hg8 hOS9 hOS hb3 hOu hOum hOS3
              go_wp2_with (
                at_builtin
                refine wpList_append_ran rfl (.tmp 66) (.tmp 68) 22 22 rfl rfl rfl hrun4 ?_)
              refine ⟨⟨k + 1, by go_num, by omega, by omega, ?_, HB8.out⟩, by simp [intOf]; omega⟩
              have h8 := HS8.out
              rw [hvs.trans hvl] at h8
              rw [HNX.out]
              exact h8)
    · have hx := Lib.hid (show (ls.take k).map (fewOne b) = fewP b ls by
        unfold fewP
        by_cases h : k < ls.length
        · rw [show k = 6 by omega]
        · rw [show k = ls.length by omega, List.take_of_length_le (Nat.le_refl _), List.take_of_length_le (by omega)])
      rw [hx.out] at hO
      have HO := Lib.hid hO
      have HB := Lib.hid hb
      have hend : (ls.length : Int) ≤ k ∨ ((k : Int) < ls.length ∧ (6 : Int) ≤ k) := by omega
      clear hO hb hx hlt
      rcases hend with hend | ⟨hend, hend2⟩
      all_goals (
        go_wp2
        go_returns
        exact ⟨_, rfl, HO.out, HB.out⟩)
end Go.Proofs.YtjilfgkoibbcnaaDoor
