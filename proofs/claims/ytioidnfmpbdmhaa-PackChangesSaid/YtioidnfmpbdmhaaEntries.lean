/- The entries that an iterator goes through, as a list. -/
import Derived.Test.YtioidnfmpbdmhaaLoops
import Derived.Laws.AppendOwn
import Derived.Sort.CutIn
namespace Go.Proofs.Ytioidnfmpbdmhaa
open Go.RowKit Go.Shelf
attribute [local go_sem] Oper.semAt_some

/-- An entry. -/
abbrev Ent := ByteArray × Int
def Cut.ent (c : Cut) : Ent := (c.m, c.s)
/-- Entries' cells. -/
def cellsE (l : List Ent) : List Value := l.flatMap fun e => [.string e.1, .int .i64 e.2]
theorem cellsE_append (a b : List Ent) : cellsE (a ++ b) = cellsE a ++ cellsE b := by simp [cellsE]
theorem cellsE_length (l : List Ent) : (cellsE l).length = l.length * 2 := by
  induction l with
  | nil => rfl
  | cons e l ih => rw [show cellsE (e :: l) = [.string e.1, .int .i64 e.2] ++ cellsE l from rfl]; simp [ih]; omega
/-- A list of entries in memory of one's own. -/
def Own35 (W : World) (n0 : Nat) (v : Value) (l : List Ent) : Prop := W.ownsRow n0 35 2 v l.length (cellsE l)

theorem own_row {β : Type} (B n0 : Nat) (v : Value) (l : β → List Ent) : OwnFrom B (fun s W => Own35 W n0 v (l s)) := fun s X Y row hs hg hr =>
  World.ownsRow.kept hs hg (by
    rcases hs.2 with ⟨rfl, _⟩ | ⟨g, cap, cur, rfl, _, hgb, _⟩
    · exact .inl rfl
    · refine .inr (fun e => ?_)
      obtain ⟨_, o, ho, hc⟩ := hr g e.symm
      rw [hgb] at ho; cases ho; cases hc)

theorem info35 : (Try.prog.info? 35).map (fun i => (i.zero, i.size, i.bytes)) = some (some (.agg #[.string ⟨#[]⟩, .int .i64 0]), 2, 24) := by kernel_rfl

theorem stepIn_append {F : Fence} {n : Nat} {P : Program} {ops : Array Oper} {o : Oper} {a : Act} {w w' : World} {K : Act → World → Prop} {Q : Exit → Act → World → Prop} {E : Prop} {v xv v' : Value} (hgd : o.guard = none) (s x : Operand) (t u : TypeId)
    (ho : o.op = Op.call { callee := Callee.builtin Builtin.append, args := #[s, x], argTypes := #[t, u] }) (hs : a.eval s = v) (hx : a.eval x = xv) (hrun : (Builtin.append_ #[t, u] o.type #[v, xv]).run P w = .ok v' w')
    (h : K (a.put o.dst v') w') : if Region.wanted o (yielded ops a.tmps) = true then Oper.wpIn F n P o a w K Q else E := by
  have hw : Region.wanted o (yielded ops a.tmps) = true := by simp [Region.wanted, hgd]
  rw [if_pos hw]
  unfold Oper.wpIn
  refine ⟨?_, ?_⟩
  · simp [Oper.about, ho, resolve, Target.leads, Sem.run_pure]
  · rw [Oper.semAt_plain F _ _ (by rw [ho]; intro c hc'; cases hc')]
    simp [execOp, ho, resolve, invoke, builtin, hs, hx, hrun, Result.andThen]
    exact h

theorem below_drew {W W6 : World} (h : Below W.drew.heap.size W.drew W6) : Below W.heap.size W W6 := (Below.refl W.heap.size W).drew.trans h
theorem Own35.later {W W6 : World} {n0 : Nat} {r : Value} {l : List Ent} (h : Own35 W n0 r l) (hb : Below W.heap.size W W6) : Own35 W6 n0 r l := World.ownsRow.kept h (below_grown hb) (by
  rcases h.2 with ⟨rfl, _⟩ | ⟨g, cap, cur, rfl, _⟩
  · exact .inl rfl
  · exact .inr (by simp [Value.ownBlock]))
theorem Blk.row {W W7 : World} {b n0 : Nat} {t : TypeId} {c : Array Value} {r : Value} {l : List Ent} {o : Obj} (h : Blk W b t c) (hg : (W.alloc o).grownBy W7 r.ownBlock) (ho : Own35 W n0 r l) (ht : t ≠ 35 := by decide) : Blk W7 b t c :=
  (hg.block b (h.alloc o).lt (fun e => by
    rcases ho.2 with ⟨rfl, _⟩ | ⟨g, cap, cur, rfl, _, hgb, _⟩
    · simp [Value.ownBlock] at e
    · simp [Value.ownBlock] at e
      subst e
      have := (show W.heap[b]? = _ from h).symm.trans hgb
      simp at this
      exact ht this.2)).trans (h.alloc o)
theorem app_ent {i0 : TypeInfo} (hi0 : Try.prog.info? 35 = some i0) (hz0 : i0.zero = some (Value.agg #[Value.string { data := #[] }, Value.int IntKind.i64 0])) (hz1 : i0.size = 2) (hz2 : i0.bytes = 24)
    {W W6 : World} {n0 : Nat} {r : Value} {l : List Ent} (hown : Own35 W n0 r l) (hb : Below W.heap.size W W6) (e : Ent) (hl : l.length ≤ 1000000000) (hn : n0 ≤ W6.heap.size) :
    ∃ g cap W7, (Builtin.append_ #[22, 22] 22 #[r, .slice (some ⟨W6.heap.size, 0, none⟩) 1 1]).run Try.prog (W6.alloc (.cells #[.string e.1, .int .i64 e.2] 35)) = .ok (.slice (some ⟨g, 0, none⟩) (l.length + 1) cap) W7 ∧
      Own35 W7 n0 (.slice (some ⟨g, 0, none⟩) (l.length + 1) cap) (l ++ [e]) ∧ (W6.alloc (.cells #[.string e.1, .int .i64 e.2] 35)).grownBy W7 r.ownBlock := by
  obtain ⟨v', w', hrun, r1, r2, r3⟩ := run_append_own (P := Try.prog) (W6.alloc (.cells #[.string e.1, .int .i64 e.2] 35)) n0 22 22 35 i0 _ 2 24 Try.underlying22 hi0 hz0 hz1 hz2 rfl (by decide) r _ _ (World.ownsRow.alloc (hown.later hb) _) ⟨W6.heap.size, 0, none⟩ 1 1 [.string e.1, .int .i64 e.2] rfl
    (fun j u hj => by
      have hB := Blk.new W6 35 #[.string e.1, .int .i64 e.2]
      match j, hj with
      | 0, hj => simp at hj; subst hj; exact hB.cell 0
      | 1, hj => simp at hj; subst hj; simp [Addr.add]
      | j + 2, hj => simp at hj)
    (by simp [Value.oneCell']) (by unfold maxLen; omega) (by omega) (by simp; omega)
  have r1' : Own35 w' n0 v' (l ++ [e]) := by
    unfold Own35
    rw [cellsE_append, List.length_append]
    exact r1
  rcases r1.2 with ⟨rfl, h0⟩ | ⟨g, cap, cur, rfl, _⟩
  · omega
  · exact ⟨g, cap, w', hrun, r1', r2⟩

theorem ownsRow_mono {w : World} {base base' : Nat} {e : TypeId} {size : Nat} {v : Value} {n : Nat} {xs : List Value} (h : w.ownsRow base e size v n xs) (hb : base' ≤ base) : w.ownsRow base' e size v n xs := by
  refine ⟨h.1, ?_⟩
  rcases h.2 with hn | ⟨g, cap, cur, rfl, hb', rest⟩
  · exact .inl hn
  · exact .inr ⟨g, cap, cur, rfl, Nat.le_trans hb hb', rest⟩
theorem app_end {w0 W W6 W7 : World} {o : Obj} {b n0 : Nat} {r v' : Value} {l l' : List Ent} (h : Blk W b 22 #[r]) (ho : Own35 W n0 r l) (hb6 : Below W.heap.size W W6) (hgrow : (W6.alloc o).grownBy W7 r.ownBlock) (ho7 : Own35 W7 n0 v' l') (hbn : b < n0)
    (hB : Below w0.heap.size w0 W) (hw : w0.heap.size ≤ b) (B : Nat) (L : List Nat) :
    KeepsFrom B W (W7.setCell ⟨b, 0, none⟩ v') ∧ KeepC L W (W7.setCell ⟨b, 0, none⟩ v') ∧ Below w0.heap.size w0 (W7.setCell ⟨b, 0, none⟩ v') ∧ Blk (W7.setCell ⟨b, 0, none⟩ v') b 22 #[v'] ∧ Own35 (W7.setCell ⟨b, 0, none⟩ v') n0 v' l' := by
  have h7 := (h.later hb6).row hgrow (ho.later hb6)
  have hs6 := hb6.size
  have hsw := hB.size
  refine ⟨?_, ?_, ?_, h7.set 0 v', ?_⟩
  · refine (((KeepsFrom.of_grownBy (row := none) (below_grown hb6) (fun _ h => by cases h)).trans ((KeepsOthers.alloc _ _).from _)).trans ((KeepsOthers.of_grownBy hgrow fun j o ej hj => ?_).from B)).trans ((KeepsOthers.setCell _ _ _).from _)
    rcases (World.ownsRow.alloc (ho.later hb6) _).2 with ⟨rfl, _⟩ | ⟨g, cap, cur, rfl, _, hgb, _⟩
    · simp [Value.ownBlock] at ej
    · obtain rfl : g = j := by simpa [Value.ownBlock] using ej
      rw [hgb] at hj; cases hj; rfl
  · refine (((KeepC.of_below hb6).trans (KeepC.of_below ((Below.refl _ _).alloc (Nat.le_refl _) _))).trans (KeepC.of_grownBy hgrow fun k c t ek hk => ?_)).trans (KeepC.of_grownBy (row := some b) (grownBy_setCell' _ _ _) fun k c t ek hk => ?_)
    · rcases (World.ownsRow.alloc (ho.later hb6) o).2 with ⟨rfl, _⟩ | ⟨g, cap, cur, rfl, _, hgb, _⟩
      · simp [Value.ownBlock] at ek
      · obtain rfl : g = k := by simpa [Value.ownBlock] using ek
        rw [hgb] at hk; cases hk
        simp [itT]
    · cases ek
      rw [show W7.heap[b]? = _ from h7] at hk; cases hk
      simp [itT]
  · refine (((hB.trans (hb6.mono hsw)).alloc (by omega) o).grown hgrow (by simp; omega) fun k ek => ?_).setCell (p := ⟨b, 0, none⟩) hw v'
    have := (World.ownsRow.lt ho k ek).1
    omega
  · refine World.ownsRow.kept ho7 (grownBy_setCell' _ _ _) (.inr fun e => ?_)
    have := (World.ownsRow.lt ho7 b e).1
    omega

set_option maxRecDepth 100000 in
set_option maxHeartbeats 4000000 in
theorem entries_run (lb : Array Value) (xs : List Cut) (LL : Nat → List Ent) (hL0 : LL 0 = []) (hLs : ∀ (i : Nat) (x : Cut), xs[i]? = some x → LL (i + 1) = LL i ++ [(x.m, x.s)]) (hLn : ∀ i, i ≤ xs.length → (LL i).length = i)
    (hs : ∀ c ∈ xs, c.m.size ≤ 1000) (hlen : xs.length ≤ 1000000) (w : World) (hG : SeqX Try.prog 45 lb encC xs [] (w.alloc (Obj.cells #[Value.slice none 0 0] 22))) :
    Calls Try.prog 32 #[.func (.func 45) #[] lb] w fun e w' => ∃ r, e = .returned r ∧ Own35 w' w.heap.size r (LL xs.length) ∧ Below w.heap.size w w' := by
  obtain ⟨i0, hi0, hz0, hz1, hz2⟩ := info_parts info35
  refine (callsIn_wide (n := 6)).1 (callsIn_of_wp_marks Try.func32 rfl trivial ?_ rfl)
  refine wpIn_wide.2 ?_
  simp only [Try.ntmps32, List.size_toArray, List.length_cons, List.length_nil, Nat.reduceAdd, Nat.reduceSub, Array.replicate_succ, Array.replicate_zero, List.push_toArray, List.append_toArray, List.nil_append, List.cons_append]
  go_wp2
  have k1 := Blk.new w 22 #[Value.slice none 0 0]
  have hB := (Below.refl w.heap.size w).alloc (Nat.le_refl _) (Obj.cells #[Value.slice none 0 0] 22)
  have hsz : (w.alloc (Obj.cells #[Value.slice none 0 0] 22)).heap.size = w.heap.size + 1 := by simp
  have hseq := hG
  clear hG
  generalize w.alloc (Obj.cells #[Value.slice none 0 0] 22) = w1 at *
  refine (wpIn_wide (n := 6)).1 (range_x (gf := 45) (lb := lb) (encs := encC) (xs := xs) (L := []) rfl (enters_of Try.func45 (by kernel_rfl) rfl) hseq (fun _ _ => rfl)
    (fun i W => ∃ r, Below w.heap.size w W ∧ Blk W w.heap.size 22 #[r] ∧ Own35 W (w.heap.size + 1) r (LL i))
    (fun _ _ _ => False)
    ?hI (fun _ => own_pure _ _) ?h0 (fun i x a' W => ∃ q, (∃ u7, a' = { tmps := #[.func (.func 45) #[] lb, undef, Value.slice none 0 0, Value.pointer (some { block := w.heap.size, off := 0 }), undef,
          Value.pointer (some { block := q, off := 0 }), .func (.func 45) #[] lb, u7, Value.agg #[Value.string x.m, Value.int IntKind.i64 x.s, Value.int IntKind.i64 x.fr, Value.int IntKind.i64 x.to], undef, undef, undef, undef, undef, undef], defers := [] }) ∧ Blk W q 61 #[.string x.m, .int .i64 x.s, .int .i64 x.fr, .int .i64 x.to])
    (fun _ _ _ => own_ex fun _ => (own_pure _ _).and (own_blk _ _ _ _)) ?assign ?body ?done (fun _ _ _ _ _ h _ => h.elim))
  case hI => exact own_ex fun r => (own_below _ w (by omega)).and ((own_blk _ _ _ _).and (own_row _ _ _ _))
  case h0 => exact ⟨_, hB, k1, by rw [hL0]; exact World.ownsRow_nil _ _ _ _⟩
  case assign =>
    rintro l i x W K hx' ⟨r, hb, q1, hown⟩ hK
    clear hseq
    unfold encC Cut.val
    gi_wp2
    have hbw := (Below.refl W.heap.size W).alloc (Nat.le_refl _) (Obj.cells #[Value.string x.m, Value.int IntKind.i64 x.s, Value.int IntKind.i64 x.fr, Value.int IntKind.i64 x.to] 61)
    exact hK _ _ ((KeepsOthers.alloc _ _).from _) (KeepC.of_below hbw) ⟨r, hb.alloc hb.size _, q1.alloc _, World.ownsRow.alloc hown _⟩ ⟨_, ⟨_, rfl⟩, Blk.new _ _ _⟩
  case body =>
    rintro l i x a' W hx' ⟨r, hb, q1, hown⟩ ⟨q, ⟨u7, rfl⟩, q6⟩
    clear hseq
    have hil : i < xs.length := (List.getElem?_eq_some_iff.1 hx').1
    have hE := fun w => Lib.hid (entry_any x (hs x (List.mem_of_getElem? hx')) w)
    unfold Cut.val at hE
    obtain ⟨c1, f1⟩ := facts1 q1
    obtain ⟨d0, d1, d2, d3, _⟩ := facts4 q6
    have hmix : Try.prog.follows .mixedOrders = true := by kernel_rfl
    have hli := hLn i (by omega)
    have HLS := Lib.hid (hLs i x hx')
    gi_wp2
    refine wpIn_region_any hmix ?_
    change wpAnyIn _ _ _ _ _ _ _ _ _ (World.drew _)
    all_goals (first | refine wpAnyIn_ready (rs := [0, 1]) (by decide +kernel) (by simp) (AllReadyIn.cons rfl (fun K hK => ?_) (AllReadyIn.cons rfl (fun K hK => ?_) AllReadyIn.nil)) | refine wpAnyIn_ready (rs := [0, 2]) (by decide +kernel) (by simp) (AllReadyIn.cons rfl (fun K hK => ?_) (AllReadyIn.cons rfl (fun K hK => ?_) AllReadyIn.nil)) | refine wpAnyIn_ready (rs := [0, 3]) (by decide +kernel) (by simp) (AllReadyIn.cons rfl (fun K hK => ?_) (AllReadyIn.cons rfl (fun K hK => ?_) AllReadyIn.nil)) | refine wpAnyIn_ready (rs := [0]) (by decide +kernel) (by simp) (AllReadyIn.cons rfl (fun K hK => ?_) AllReadyIn.nil) | refine wpAnyIn_ready (rs := [1]) (by decide +kernel) (by simp) (AllReadyIn.cons rfl (fun K hK => ?_) AllReadyIn.nil) | refine wpAnyIn_ready (rs := [2]) (by decide +kernel) (by simp) (AllReadyIn.cons rfl (fun K hK => ?_) AllReadyIn.nil) | refine wpAnyIn_ready (rs := [3]) (by decide +kernel) (by simp) (AllReadyIn.cons rfl (fun K hK => ?_) AllReadyIn.nil) | refine wpAnyIn_ready (rs := [4]) (by decide +kernel) (by simp) (AllReadyIn.cons rfl (fun K hK => ?_) AllReadyIn.nil) | refine wpAnyIn_ready (rs := [5]) (by decide +kernel) (by simp) (AllReadyIn.cons rfl (fun K hK => ?_) AllReadyIn.nil))
    all_goals (first | (refine stepIn_append rfl _ _ 22 22 rfl rfl rfl hrun ?_; refine hK _ _ ?_; clear hK K hrun) | (go_simp; refine hK _ _ ?_; clear hK K) | (go_simp; (try refine ⟨trivial, ?_⟩); refine (CallsIn.inRound l (callsIn_wide.2 (hE _).out)).mono ?_; rintro e W6 ⟨rfl, hb6⟩; have q16 := q1.drew.later hb6; have hc6 := (facts1 q16).1; have hc6b := (facts1 (q16.alloc (Obj.cells #[.string x.m, .int .i64 x.s] 35))).1; obtain ⟨g7, cap7, w7, hrun, hown7, hgrow⟩ := app_ent hi0 hz0 hz1 hz2 hown (below_drew hb6) (x.m, x.s) (by omega) (by have h1 := hb6.size; have h2 := q1.lt; rw [show W.drew.heap.size = W.heap.size from rfl] at h1; omega); rw [hli] at hrun hown7; have q17 := q16.row hgrow (hown.later (below_drew hb6)); obtain ⟨c7, f7⟩ := facts1 q17; go_simp; refine hK _ _ ?_; clear hK K))
    all_goals (first | refine wpAnyIn_ready (rs := [0, 1]) (by decide +kernel) (by simp) (AllReadyIn.cons rfl (fun K hK => ?_) (AllReadyIn.cons rfl (fun K hK => ?_) AllReadyIn.nil)) | refine wpAnyIn_ready (rs := [0, 2]) (by decide +kernel) (by simp) (AllReadyIn.cons rfl (fun K hK => ?_) (AllReadyIn.cons rfl (fun K hK => ?_) AllReadyIn.nil)) | refine wpAnyIn_ready (rs := [0, 3]) (by decide +kernel) (by simp) (AllReadyIn.cons rfl (fun K hK => ?_) (AllReadyIn.cons rfl (fun K hK => ?_) AllReadyIn.nil)) | refine wpAnyIn_ready (rs := [0]) (by decide +kernel) (by simp) (AllReadyIn.cons rfl (fun K hK => ?_) AllReadyIn.nil) | refine wpAnyIn_ready (rs := [1]) (by decide +kernel) (by simp) (AllReadyIn.cons rfl (fun K hK => ?_) AllReadyIn.nil) | refine wpAnyIn_ready (rs := [2]) (by decide +kernel) (by simp) (AllReadyIn.cons rfl (fun K hK => ?_) AllReadyIn.nil) | refine wpAnyIn_ready (rs := [3]) (by decide +kernel) (by simp) (AllReadyIn.cons rfl (fun K hK => ?_) AllReadyIn.nil) | refine wpAnyIn_ready (rs := [4]) (by decide +kernel) (by simp) (AllReadyIn.cons rfl (fun K hK => ?_) AllReadyIn.nil) | refine wpAnyIn_ready (rs := [5]) (by decide +kernel) (by simp) (AllReadyIn.cons rfl (fun K hK => ?_) AllReadyIn.nil))
    all_goals (first | (refine stepIn_append rfl _ _ 22 22 rfl rfl rfl hrun ?_; refine hK _ _ ?_; clear hK K hrun) | (go_simp; refine hK _ _ ?_; clear hK K) | (go_simp; (try refine ⟨trivial, ?_⟩); refine (CallsIn.inRound l (callsIn_wide.2 (hE _).out)).mono ?_; rintro e W6 ⟨rfl, hb6⟩; have q16 := q1.drew.later hb6; have hc6 := (facts1 q16).1; have hc6b := (facts1 (q16.alloc (Obj.cells #[.string x.m, .int .i64 x.s] 35))).1; obtain ⟨g7, cap7, w7, hrun, hown7, hgrow⟩ := app_ent hi0 hz0 hz1 hz2 hown (below_drew hb6) (x.m, x.s) (by omega) (by have h1 := hb6.size; have h2 := q1.lt; rw [show W.drew.heap.size = W.heap.size from rfl] at h1; omega); rw [hli] at hrun hown7; have q17 := q16.row hgrow (hown.later (below_drew hb6)); obtain ⟨c7, f7⟩ := facts1 q17; go_simp; refine hK _ _ ?_; clear hK K))
    all_goals (first | refine wpAnyIn_ready (rs := [0, 1]) (by decide +kernel) (by simp) (AllReadyIn.cons rfl (fun K hK => ?_) (AllReadyIn.cons rfl (fun K hK => ?_) AllReadyIn.nil)) | refine wpAnyIn_ready (rs := [0, 2]) (by decide +kernel) (by simp) (AllReadyIn.cons rfl (fun K hK => ?_) (AllReadyIn.cons rfl (fun K hK => ?_) AllReadyIn.nil)) | refine wpAnyIn_ready (rs := [0, 3]) (by decide +kernel) (by simp) (AllReadyIn.cons rfl (fun K hK => ?_) (AllReadyIn.cons rfl (fun K hK => ?_) AllReadyIn.nil)) | refine wpAnyIn_ready (rs := [0]) (by decide +kernel) (by simp) (AllReadyIn.cons rfl (fun K hK => ?_) AllReadyIn.nil) | refine wpAnyIn_ready (rs := [1]) (by decide +kernel) (by simp) (AllReadyIn.cons rfl (fun K hK => ?_) AllReadyIn.nil) | refine wpAnyIn_ready (rs := [2]) (by decide +kernel) (by simp) (AllReadyIn.cons rfl (fun K hK => ?_) AllReadyIn.nil) | refine wpAnyIn_ready (rs := [3]) (by decide +kernel) (by simp) (AllReadyIn.cons rfl (fun K hK => ?_) AllReadyIn.nil) | refine wpAnyIn_ready (rs := [4]) (by decide +kernel) (by simp) (AllReadyIn.cons rfl (fun K hK => ?_) AllReadyIn.nil) | refine wpAnyIn_ready (rs := [5]) (by decide +kernel) (by simp) (AllReadyIn.cons rfl (fun K hK => ?_) AllReadyIn.nil))
    all_goals (first | (refine stepIn_append rfl _ _ 22 22 rfl rfl rfl hrun ?_; refine hK _ _ ?_; clear hK K hrun) | (go_simp; refine hK _ _ ?_; clear hK K) | (go_simp; (try refine ⟨trivial, ?_⟩); refine (CallsIn.inRound l (callsIn_wide.2 (hE _).out)).mono ?_; rintro e W6 ⟨rfl, hb6⟩; have q16 := q1.drew.later hb6; have hc6 := (facts1 q16).1; have hc6b := (facts1 (q16.alloc (Obj.cells #[.string x.m, .int .i64 x.s] 35))).1; obtain ⟨g7, cap7, w7, hrun, hown7, hgrow⟩ := app_ent hi0 hz0 hz1 hz2 hown (below_drew hb6) (x.m, x.s) (by omega) (by have h1 := hb6.size; have h2 := q1.lt; rw [show W.drew.heap.size = W.heap.size from rfl] at h1; omega); rw [hli] at hrun hown7; have q17 := q16.row hgrow (hown.later (below_drew hb6)); obtain ⟨c7, f7⟩ := facts1 q17; go_simp; refine hK _ _ ?_; clear hK K))
    all_goals (first | refine wpAnyIn_ready (rs := [0, 1]) (by decide +kernel) (by simp) (AllReadyIn.cons rfl (fun K hK => ?_) (AllReadyIn.cons rfl (fun K hK => ?_) AllReadyIn.nil)) | refine wpAnyIn_ready (rs := [0, 2]) (by decide +kernel) (by simp) (AllReadyIn.cons rfl (fun K hK => ?_) (AllReadyIn.cons rfl (fun K hK => ?_) AllReadyIn.nil)) | refine wpAnyIn_ready (rs := [0, 3]) (by decide +kernel) (by simp) (AllReadyIn.cons rfl (fun K hK => ?_) (AllReadyIn.cons rfl (fun K hK => ?_) AllReadyIn.nil)) | refine wpAnyIn_ready (rs := [0]) (by decide +kernel) (by simp) (AllReadyIn.cons rfl (fun K hK => ?_) AllReadyIn.nil) | refine wpAnyIn_ready (rs := [1]) (by decide +kernel) (by simp) (AllReadyIn.cons rfl (fun K hK => ?_) AllReadyIn.nil) | refine wpAnyIn_ready (rs := [2]) (by decide +kernel) (by simp) (AllReadyIn.cons rfl (fun K hK => ?_) AllReadyIn.nil) | refine wpAnyIn_ready (rs := [3]) (by decide +kernel) (by simp) (AllReadyIn.cons rfl (fun K hK => ?_) AllReadyIn.nil) | refine wpAnyIn_ready (rs := [4]) (by decide +kernel) (by simp) (AllReadyIn.cons rfl (fun K hK => ?_) AllReadyIn.nil) | refine wpAnyIn_ready (rs := [5]) (by decide +kernel) (by simp) (AllReadyIn.cons rfl (fun K hK => ?_) AllReadyIn.nil))
    all_goals (first | (refine stepIn_append rfl _ _ 22 22 rfl rfl rfl hrun ?_; refine hK _ _ ?_; clear hK K hrun) | (go_simp; refine hK _ _ ?_; clear hK K) | (go_simp; (try refine ⟨trivial, ?_⟩); refine (CallsIn.inRound l (callsIn_wide.2 (hE _).out)).mono ?_; rintro e W6 ⟨rfl, hb6⟩; have q16 := q1.drew.later hb6; have hc6 := (facts1 q16).1; have hc6b := (facts1 (q16.alloc (Obj.cells #[.string x.m, .int .i64 x.s] 35))).1; obtain ⟨g7, cap7, w7, hrun, hown7, hgrow⟩ := app_ent hi0 hz0 hz1 hz2 hown (below_drew hb6) (x.m, x.s) (by omega) (by have h1 := hb6.size; have h2 := q1.lt; rw [show W.drew.heap.size = W.heap.size from rfl] at h1; omega); rw [hli] at hrun hown7; have q17 := q16.row hgrow (hown.later (below_drew hb6)); obtain ⟨c7, f7⟩ := facts1 q17; go_simp; refine hK _ _ ?_; clear hK K))
    all_goals (first | refine wpAnyIn_ready (rs := [0, 1]) (by decide +kernel) (by simp) (AllReadyIn.cons rfl (fun K hK => ?_) (AllReadyIn.cons rfl (fun K hK => ?_) AllReadyIn.nil)) | refine wpAnyIn_ready (rs := [0, 2]) (by decide +kernel) (by simp) (AllReadyIn.cons rfl (fun K hK => ?_) (AllReadyIn.cons rfl (fun K hK => ?_) AllReadyIn.nil)) | refine wpAnyIn_ready (rs := [0, 3]) (by decide +kernel) (by simp) (AllReadyIn.cons rfl (fun K hK => ?_) (AllReadyIn.cons rfl (fun K hK => ?_) AllReadyIn.nil)) | refine wpAnyIn_ready (rs := [0]) (by decide +kernel) (by simp) (AllReadyIn.cons rfl (fun K hK => ?_) AllReadyIn.nil) | refine wpAnyIn_ready (rs := [1]) (by decide +kernel) (by simp) (AllReadyIn.cons rfl (fun K hK => ?_) AllReadyIn.nil) | refine wpAnyIn_ready (rs := [2]) (by decide +kernel) (by simp) (AllReadyIn.cons rfl (fun K hK => ?_) AllReadyIn.nil) | refine wpAnyIn_ready (rs := [3]) (by decide +kernel) (by simp) (AllReadyIn.cons rfl (fun K hK => ?_) AllReadyIn.nil) | refine wpAnyIn_ready (rs := [4]) (by decide +kernel) (by simp) (AllReadyIn.cons rfl (fun K hK => ?_) AllReadyIn.nil) | refine wpAnyIn_ready (rs := [5]) (by decide +kernel) (by simp) (AllReadyIn.cons rfl (fun K hK => ?_) AllReadyIn.nil))
    all_goals (first | (refine stepIn_append rfl _ _ 22 22 rfl rfl rfl hrun ?_; refine hK _ _ ?_; clear hK K hrun) | (go_simp; refine hK _ _ ?_; clear hK K) | (go_simp; (try refine ⟨trivial, ?_⟩); refine (CallsIn.inRound l (callsIn_wide.2 (hE _).out)).mono ?_; rintro e W6 ⟨rfl, hb6⟩; have q16 := q1.drew.later hb6; have hc6 := (facts1 q16).1; have hc6b := (facts1 (q16.alloc (Obj.cells #[.string x.m, .int .i64 x.s] 35))).1; obtain ⟨g7, cap7, w7, hrun, hown7, hgrow⟩ := app_ent hi0 hz0 hz1 hz2 hown (below_drew hb6) (x.m, x.s) (by omega) (by have h1 := hb6.size; have h2 := q1.lt; rw [show W.drew.heap.size = W.heap.size from rfl] at h1; omega); rw [hli] at hrun hown7; have q17 := q16.row hgrow (hown.later (below_drew hb6)); obtain ⟨c7, f7⟩ := facts1 q17; go_simp; refine hK _ _ ?_; clear hK K))
    all_goals (first | refine wpAnyIn_ready (rs := [0, 1]) (by decide +kernel) (by simp) (AllReadyIn.cons rfl (fun K hK => ?_) (AllReadyIn.cons rfl (fun K hK => ?_) AllReadyIn.nil)) | refine wpAnyIn_ready (rs := [0, 2]) (by decide +kernel) (by simp) (AllReadyIn.cons rfl (fun K hK => ?_) (AllReadyIn.cons rfl (fun K hK => ?_) AllReadyIn.nil)) | refine wpAnyIn_ready (rs := [0, 3]) (by decide +kernel) (by simp) (AllReadyIn.cons rfl (fun K hK => ?_) (AllReadyIn.cons rfl (fun K hK => ?_) AllReadyIn.nil)) | refine wpAnyIn_ready (rs := [0]) (by decide +kernel) (by simp) (AllReadyIn.cons rfl (fun K hK => ?_) AllReadyIn.nil) | refine wpAnyIn_ready (rs := [1]) (by decide +kernel) (by simp) (AllReadyIn.cons rfl (fun K hK => ?_) AllReadyIn.nil) | refine wpAnyIn_ready (rs := [2]) (by decide +kernel) (by simp) (AllReadyIn.cons rfl (fun K hK => ?_) AllReadyIn.nil) | refine wpAnyIn_ready (rs := [3]) (by decide +kernel) (by simp) (AllReadyIn.cons rfl (fun K hK => ?_) AllReadyIn.nil) | refine wpAnyIn_ready (rs := [4]) (by decide +kernel) (by simp) (AllReadyIn.cons rfl (fun K hK => ?_) AllReadyIn.nil) | refine wpAnyIn_ready (rs := [5]) (by decide +kernel) (by simp) (AllReadyIn.cons rfl (fun K hK => ?_) AllReadyIn.nil))
    all_goals (first | (refine stepIn_append rfl _ _ 22 22 rfl rfl rfl hrun ?_; refine hK _ _ ?_; clear hK K hrun) | (go_simp; refine hK _ _ ?_; clear hK K) | (go_simp; (try refine ⟨trivial, ?_⟩); refine (CallsIn.inRound l (callsIn_wide.2 (hE _).out)).mono ?_; rintro e W6 ⟨rfl, hb6⟩; have q16 := q1.drew.later hb6; have hc6 := (facts1 q16).1; have hc6b := (facts1 (q16.alloc (Obj.cells #[.string x.m, .int .i64 x.s] 35))).1; obtain ⟨g7, cap7, w7, hrun, hown7, hgrow⟩ := app_ent hi0 hz0 hz1 hz2 hown (below_drew hb6) (x.m, x.s) (by omega) (by have h1 := hb6.size; have h2 := q1.lt; rw [show W.drew.heap.size = W.heap.size from rfl] at h1; omega); rw [hli] at hrun hown7; have q17 := q16.row hgrow (hown.later (below_drew hb6)); obtain ⟨c7, f7⟩ := facts1 q17; go_simp; refine hK _ _ ?_; clear hK K))
    all_goals refine wpAnyIn_done (by decide +kernel) ?_ _
    all_goals gi_wp2
    all_goals (
      obtain ⟨z1, z2, z3, z4, z5⟩ := app_end q1 hown (below_drew hb6) hgrow hown7 (by omega) hb (Nat.le_refl _) (w.heap.size + 1) []
      exact ⟨z1, z2, z3, _, z4, by rw [HLS.out]; exact z5⟩)
  case done =>
    rintro D W hD ⟨r, hb, q1, hown⟩ hK
    clear hseq
    obtain ⟨g0, g1⟩ := facts1 q1
    have Q2 := Lib.hid q1
    have HK := Lib.hid hK
    have HO := Lib.hid hown
    clear hK q1 hown
    simp only [Exit.inBlock, Exit.then]
    go_wp2
    refine leave rfl HK.out (results_tmp rfl _ _ _) ⟨_, rfl, ownsRow_mono (ownsRow_putObj HO.out _ HK.out rfl) (by omega), below_put hb (by omega) _⟩

theorem entries_any (v : Value) (xs : List Cut) (n0 : Nat) (w0 : World) (hG : Goes v xs n0 w0) (hs : ∀ c ∈ xs, c.m.size ≤ 1000) (hlen : xs.length ≤ 1000000) (w : World) (hw : Below w0.heap.size w0 w) :
    Calls Try.prog 32 #[v] w fun e w' => ∃ r, e = .returned r ∧ Own35 w' w.heap.size r (xs.map Cut.ent) ∧ Below w.heap.size w w' := by
  obtain ⟨lb, rfl, hG⟩ := hG
  have := entries_run lb xs (fun i => (xs.take i).map Cut.ent) rfl (fun i x hx => by
    obtain ⟨hi, rfl⟩ := List.getElem?_eq_some_iff.1 hx
    rw [List.take_succ_eq_append_getElem hi, List.map_append]; rfl) (fun i hi => by simp; omega) hs hlen w (hG [] _ (hw.alloc hw.size _) (by intro k hk; simp at hk))
  rwa [show (xs.take xs.length).map Cut.ent = xs.map Cut.ent by rw [List.take_of_length_le (Nat.le_refl _)]] at this
end Go.Proofs.Ytioidnfmpbdmhaa
