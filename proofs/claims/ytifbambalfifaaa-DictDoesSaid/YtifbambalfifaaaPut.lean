/- put: nodes get their slots. -/
import Derived.Test.YtifbambalfifaaaMem
namespace Go.Proofs.Ytifbambalfifaaa
open Go.RowKit Go.Shelf
attribute [local go_sem] Oper.semAt_some

/-- Nodes get their slots, one by one. -/
def putR (rows : List (List Nd)) (x : Nd) : List (List Nd) := rows.set (x.sum % rows.length) (rows.getD (x.sum % rows.length) [] ++ [x])
def putL (rows : List (List Nd)) (xs : List Nd) : List (List Nd) := xs.foldl putR rows
theorem putR_len (rows : List (List Nd)) (x : Nd) : (putR rows x).length = rows.length := by unfold putR; rw [List.length_set]
theorem putL_len (xs : List Nd) : ∀ rows : List (List Nd), (putL rows xs).length = rows.length := by
  induction xs with
  | nil => intro rows; rfl
  | cons x xs ih => intro rows; exact (ih _).trans (putR_len rows x)
theorem putL_snoc (rows : List (List Nd)) (xs : List Nd) (i : Nat) (x : Nd) (hx : xs[i]? = some x) : putL rows (xs.take (i + 1)) = putR (putL rows (xs.take i)) x := by
  obtain ⟨hi, he⟩ := List.getElem?_eq_some_iff.1 hx
  rw [List.take_succ_eq_append_getElem hi, he]
  unfold putL
  rw [List.foldl_append]; rfl
theorem total_set (rows : List (List Nd)) : ∀ (i : Nat) (r : List Nd) (x : Nd), rows[i]? = some r → (rows.set i (r ++ [x])).flatten.length = rows.flatten.length + 1 := by
  induction rows with
  | nil => intro i r x h; simp at h
  | cons y rows ih =>
    intro i r x h
    cases i with
    | zero => simp at h; subst h; simp; omega
    | succ i => have := ih i r x (by simpa using h); simp at this ⊢; omega
theorem putR_total (rows : List (List Nd)) (x : Nd) (h : 0 < rows.length) : (putR rows x).flatten.length = rows.flatten.length + 1 := by
  have hlt : x.sum % rows.length < rows.length := Nat.mod_lt _ h
  unfold putR
  rw [List.getD_eq_getElem?_getD, List.getElem?_eq_getElem hlt]
  exact total_set rows _ _ x (List.getElem?_eq_getElem hlt)
theorem putL_total (xs : List Nd) : ∀ rows : List (List Nd), 0 < rows.length → (putL rows xs).flatten.length = rows.flatten.length + xs.length := by
  induction xs with
  | nil => intro rows _; rfl
  | cons x xs ih =>
    intro rows h
    have := ih (putR rows x) (by rw [putR_len]; exact h)
    rw [putR_total rows x h] at this
    show (putL (putR rows x) xs).flatten.length = _
    rw [this, List.length_cons]; omega
theorem row_le (rows : List (List Nd)) : ∀ r ∈ rows, r.length ≤ rows.flatten.length := by
  induction rows with
  | nil => intro r h; simp at h
  | cons y rows ih =>
    intro r h
    rcases List.mem_cons.1 h with rfl | h
    · simp
    · have := ih r h; simp at this ⊢; omega

theorem info75 : (Try.prog.info? 75).map (fun i => (i.zero, i.size, i.bytes)) = some (some (.agg #[.int .u32 0, .string ⟨#[]⟩, .int .i64 0]), 3, 32) := by kernel_rfl

theorem step_append_ran {P : Program} {ops : Array Oper} {o : Oper} {a : Act} {w w' : World} {K : Act → World → Prop} {Q : Exit → Act → World → Prop} {E : Prop} {v xv v' : Value} (hgd : o.guard = none) (s x : Operand) (t u : TypeId)
    (ho : o.op = Op.call { callee := Callee.builtin Builtin.append, args := #[s, x], argTypes := #[t, u] }) (hs : a.eval s = v) (hx : a.eval x = xv) (hrun : (Builtin.append_ #[t, u] o.type #[v, xv]).run P w = .ok v' w')
    (h : K (a.put o.dst v') w') : if Region.wanted o (yielded ops a.tmps) = true then Oper.wp P o a w K Q else E := by
  have hw : Region.wanted o (yielded ops a.tmps) = true := by simp [Region.wanted, hgd]
  rw [if_pos hw]
  unfold Oper.wp
  simp [execOp, ho, resolve, invoke, builtin, hs, hx, hrun, Result.andThen]
  exact h

/-- One node onto a row. -/
theorem app_node {W W6 : World} {vj : Value} {rj : List Nd} (hown : RowAt tyI W vj rj) (hb : Below W.heap.size W W6) (x : Nd) (hx : tyI.ok x.v) (hl : rj.length ≤ 1000000) :
    ∃ gg cap' W7, (Builtin.append_ #[67, 67] 67 #[vj, .slice (some ⟨W6.heap.size, 0, none⟩) 1 1]).run Try.prog (W6.alloc (.cells x.cells.toArray 75)) = .ok (.slice (some ⟨gg, 0, none⟩) (rj.length + 1) cap') W7 ∧
      RowAt tyI W7 (.slice (some ⟨gg, 0, none⟩) (rj.length + 1) cap') (rj ++ [x]) ∧ (W6.alloc (.cells x.cells.toArray 75)).grownBy W7 vj.ownBlock ∧ (vj.ownBlock = some gg ∨ gg = W6.heap.size + 1) := by
  obtain ⟨i0, hi0, hz0, hz1, hz2⟩ := info_parts info75
  have hk : RowAt tyI (W6.alloc (.cells x.cells.toArray 75)) vj rj := (hown.far (S := fun _ => False) (Far.of_below hb) fun _ _ h => h).far (S := fun _ => False) (Far.of_below ((Below.refl _ _).alloc (Nat.le_refl _) _)) fun _ _ h => h
  obtain ⟨v', w', hrun, r1, r2, r3, r4⟩ := run_append_own_at (P := Try.prog) (W6.alloc (.cells x.cells.toArray 75)) 0 67 67 75 i0 _ 3 32 Try.underlying67 hi0 hz0 hz1 hz2 rfl (by decide) vj _ _ hk ⟨W6.heap.size, 0, none⟩ 1 1 x.cells rfl
    (World.news_of_block (cs := x.cells.toArray) (t := 75) (fr := (0, 0)) (heap_alloc_new _ _)) (fun u hu => flat_one (r := [x]) (fun y hy => by simp at hy; subst hy; exact one_int hx) u (by simpa [flat] using hu)) (by unfold maxLen; omega) (by omega) (Nat.zero_le _)
  have r1' : RowAt tyI w' v' (rj ++ [x]) := by
    unfold RowAt
    rw [flat_append, List.length_append]
    simpa [flat, tyI] using r1
  rcases r1.2 with ⟨rfl, h0⟩ | ⟨gg, cap', cur, rfl, _⟩
  · omega
  · refine ⟨gg, cap', w', hrun, r1', r2, ?_⟩
    rcases r4 with h | h
    · exact .inl h.symm
    · right; simp [Value.ownBlock] at h; omega

def PutI (w : World) (g : Nat) (vs : List Value) (rows : List (List Nd)) (xs : List Nd) (k : Nat) (wr : World) : Prop :=
  ∃ vs', TabAt tyI wr g vs' (putL rows (xs.take k)) ∧ Sep vs' ∧ (∀ u ∈ vs', ∀ k, u.ownBlock = some k → (∃ u0 ∈ vs, u0.ownBlock = some k) ∨ w.heap.size ≤ k) ∧ Far (InTab g vs) w wr
theorem PutI.step {w : World} {g : Nat} {vs : List Value} {rows : List (List Nd)} {xs : List Nd} {k : Nat} {wr w1 W6 W7 : World} {vs' : List Value}
    (hT : TabAt tyI wr g vs' (putL rows (xs.take k))) (hS : Sep vs') (hI : ∀ u ∈ vs', ∀ k, u.ownBlock = some k → (∃ u0 ∈ vs, u0.ownBlock = some k) ∨ w.heap.size ≤ k) (hF : Far (InTab g vs) w wr)
    (hb1 : Below wr.heap.size wr w1) (hb6 : Below w1.heap.size w1 W6) {x : Nd} (hx : xs[k]? = some x) {vj : Value} (hvj : vs'[x.sum % rows.length]? = some vj) {o : Obj} {gg cap' : Nat}
    (r1 : RowAt tyI W7 (.slice (some ⟨gg, 0, none⟩) (((putL rows (xs.take k)).getD (x.sum % rows.length) []).length + 1) cap') ((putL rows (xs.take k)).getD (x.sum % rows.length) [] ++ [x]))
    (r2 : (W6.alloc o).grownBy W7 vj.ownBlock) (r3 : vj.ownBlock = some gg ∨ gg = W6.heap.size + 1) :
    PutI w g vs rows xs (k + 1) (W7.setCell ⟨g, x.sum % rows.length, none⟩ (.slice (some ⟨gg, 0, none⟩) (((putL rows (xs.take k)).getD (x.sum % rows.length) []).length + 1) cap')) := by
  obtain ⟨rj, hrj, hRj⟩ := hT.rows hvj
  have hpl := putL_len (xs.take k) rows
  have hsz1 := hb1.size
  have hsz6 := hb6.size
  have hsz7 := r2.size
  have hval : W6.heap.size + 1 ≤ W7.heap.size := by simpa using hsz7
  have hin : ∀ {b}, vj.ownBlock = some b → InTab g vs' b := fun h => .inr ⟨vj, List.mem_of_getElem? hvj, h⟩
  -- all that the append may change
  have f7 : Far (fun b => vj.ownBlock = some b) wr W7 := by
    refine Far.trans (S1 := fun b => vj.ownBlock = some b) (((Far.of_below hb1).then_below hb6).then_below (((Below.refl _ _).alloc (Nat.le_refl _) o))) (Far.of_grown r2 fun k e => .inl e) (fun b hb => .inl hb)
  have hjl : x.sum % rows.length < vs'.length := (List.getElem?_eq_some_iff.1 hvj).1
  have hne : ∀ b, vj.ownBlock = some b → b ≠ g := fun b hb e => by
    subst e
    obtain ⟨c, hc⟩ := hRj.blk hb
    exact absurd (hc.ty hT.blk) (by decide)
  have hbg : Blk W7 g 67 vs'.toArray := f7.blk hT.blk (fun h => hne g h rfl)
  have hgg : gg ≠ g := by
    rcases r3 with h | h
    · exact hne gg h
    · have := hT.blk.lt; omega
  refine ⟨vs'.set (x.sum % rows.length) (.slice (some ⟨gg, 0, none⟩) (((putL rows (xs.take k)).getD (x.sum % rows.length) []).length + 1) cap'), ⟨?_, ?_, ?_⟩, ?_, ?_, ?_⟩
  · have := hbg.set (x.sum % rows.length) (.slice (some ⟨gg, 0, none⟩) (((putL rows (xs.take k)).getD (x.sum % rows.length) []).length + 1) cap')
    rwa [List.setIfInBounds_toArray] at this
  · rw [List.length_set, putL_snoc rows xs k x hx, putR_len, hT.len]
  · intro i v r hv hr
    rw [putL_snoc rows xs k x hx] at hr
    unfold putR at hr
    rw [hpl] at hr
    by_cases e : i = x.sum % rows.length
    · subst e
      rw [List.getElem?_set_self hjl] at hv
      rw [List.getElem?_set_self (by rw [← hT.len]; exact hjl)] at hr
      cases hv; cases hr
      refine r1.far (S := fun b => b = g) ((Far.refl _ _).set _ _ (.inl rfl)) ?_
      intro b hb e
      simp [Value.ownBlock] at hb
      omega
    · rw [List.getElem?_set_ne (fun h => e h.symm)] at hv hr
      have h0 := hT.row i v r hv hr
      have h7 : RowAt tyI W7 v r := h0.far f7 fun b hb h => e (hS i _ v vj b hv hvj hb h)
      refine h7.far (S := fun b => b = g) ((Far.refl _ _).set _ _ (.inl rfl)) ?_
      intro b hb e2
      subst e2
      obtain ⟨c, hc⟩ := h0.blk hb
      exact absurd (hc.ty hT.blk) (by decide)
  · refine hS.set hvj fun b hb => ?_
    simp [Value.ownBlock] at hb
    subst hb
    rcases r3 with h | h
    · exact .inl h
    · right
      intro u hu hu2
      obtain ⟨r, hr⟩ := hT.mem hu
      have := hr.lt hu2
      omega
  · intro u hu b hb
    rcases List.mem_or_eq_of_mem_set hu with h | rfl
    · exact hI u h b hb
    · simp [Value.ownBlock] at hb
      subst hb
      rcases r3 with h | h
      · exact hI vj (List.mem_of_getElem? hvj) _ h
      · right; have := hF.size; omega
  · refine Far.set (hF.trans f7 fun b hb => ?_) _ _ (.inl (.inl rfl))
    rcases hI vj (List.mem_of_getElem? hvj) b hb with ⟨u0, h1, h2⟩ | h
    · exact .inl (.inr ⟨u0, h1, h2⟩)
    · exact .inr h

set_option maxRecDepth 100000 in
set_option maxHeartbeats 4000000 in
theorem put_any (g : Nat) (vs : List Value) (rows : List (List Nd)) (v : Value) (xs : List Nd) (w : World) (hT : TabAt tyI w g vs rows) (hS : Sep vs) (hz : isS (rows.length : Int) = true)
    (hr : RowAt tyI w v xs) (hv : ∀ u ∈ vs, ∀ k, u.ownBlock = some k → v.ownBlock ≠ some k) (hf : ∀ x ∈ xs, x.fine tyI) (hn : rows.flatten.length + xs.length ≤ 1000000) :
    Calls Try.prog 38 #[.slice (some ⟨g, 0, none⟩) rows.length rows.length, v] w fun e w' => e = .returned (.tuple #[]) ∧ PutI w g vs rows xs xs.length w' := by
  have hvg : ∀ k, v.ownBlock = some k → ¬ InTab g vs k := fun k hk h => by
    rcases h with rfl | ⟨u, hu, hu2⟩
    · obtain ⟨c, hc⟩ := hr.blk hk
      have := hc.ty hT.blk
      exact absurd this (by decide)
    · exact hv u hu k hu2 hk
  have hn1 := isS_pos hz
  have H0 : PutI w g vs rows xs 0 w := ⟨vs, hT, hS, fun u hu k hk => .inl ⟨u, hu, hk⟩, Far.refl _ _⟩
  have hfar : ∀ k wr, PutI w g vs rows xs k wr → RowAt tyI wr v xs := fun k wr ⟨_, _, _, _, f⟩ => hr.far f hvg
  have HFAR := Lib.hid hfar
  clear hfar
  obtain ⟨A, cap, rfl, hcap, hmax, hat⟩ := hr.form
  clear hat
  have hn2 : (xs.length : Int) ≤ 1000000 := by omega
  have hn3 : (4 : Int) ≤ rows.length := by omega
  have HI := fun (s : Nat) hs w => Lib.hid (slot_any s hs rows.length w)
  unfold slotS at HI
  simp only [hz, if_true] at HI
  have HF := Lib.hid hf
  clear hf hz hS hT hr hv hvg
  go_enter Try.func38, Try.ntmps38
  go_wp2
  go_loopw [10] (fun i wr => ∃ (k : Nat), i = .int .i64 k ∧ k ≤ xs.length ∧ PutI w g vs rows xs k wr) (fun i _ => xs.length - (intOf i).toNat)
  case atStart => exact ⟨0, rfl, by omega, H0⟩
  case round =>
    obtain ⟨k, rfl, hk, hP⟩ := hrel
    by_cases hlt : k < xs.length
    · have hx : xs[k]? = some xs[k] := List.getElem?_eq_getElem hlt
      obtain ⟨A', cap', he, _, _, hat⟩ := (HFAR.out _ _ hP).form
      obtain ⟨gv, hA, hob, c0, c1, c2, fz⟩ := hat k _ hx
      cases he
      subst hA
      generalize xs[k] = x at *
      obtain ⟨hx1, hx2⟩ := HF.out x (List.mem_of_getElem? hx)
      obtain ⟨sum, key, vv⟩ := x
      obtain ⟨nv, hnv⟩ := hx2
      simp only at hnv hx1 c0 c1 c2
      subst hnv
      obtain ⟨vs', hT, hS, hI, hF⟩ := hP
      have hpl := putL_len (xs.take k) rows
      have hj : sum % rows.length < rows.length := Nat.mod_lt _ (by omega)
      have hvl : vs'.length = rows.length := hT.len.trans hpl
      obtain ⟨vj, hvj⟩ : ∃ vj, vs'[sum % rows.length]? = some vj := ⟨_, List.getElem?_eq_getElem (by omega)⟩
      obtain ⟨rj, hrj, hRj⟩ := hT.rows hvj
      have hrl : rj.length ≤ 1000000 := by
        have h1 := row_le _ rj (List.mem_of_getElem? hrj)
        have h2 := putL_total (xs.take k) rows (by omega)
        have h3 : (xs.take k).length ≤ xs.length := by rw [List.length_take]; omega
        omega
      have hgd : (putL rows (xs.take k)).getD (sum % rows.length) [] = rj := by rw [List.getD_eq_getElem?_getD, hrj]; rfl
      have hcg : ∀ W, Below wr.heap.size wr W → W.cell? ⟨g, sum % rows.length, none⟩ = some vj ∧ W.frozen? ⟨g, sum % rows.length, none⟩ = false := fun W hW => by
        have hB := hT.blk.later hW
        exact ⟨by rw [hB.cell]; simpa using hvj, hB.free _⟩
      have hgl := hT.blk.lt
      have hog : vj.ownBlock ≠ some g := fun h => by
        obtain ⟨c, hc⟩ := hRj.blk h
        exact absurd (hc.ty hT.blk) (by decide)
      have HI2 := fun w => HI sum hx1 w
      have hje : (sum : Int) % (rows.length : Int) = ((sum % rows.length : Nat) : Int) := by omega
      simp only [hje] at HI2
      have HSTEP := fun w1 W6 W7 (b1 : Below wr.heap.size wr w1) (b6 : Below w1.heap.size w1 W6) o gg cap' r1 r2 r3 => Lib.hid (PutI.step (w := w) (vs := vs) (rows := rows) (k := k) (W7 := W7) hT hS hI hF b1 b6 hx hvj (o := o) (gg := gg) (cap' := cap') r1 r2 r3)
      simp only [hgd] at HSTEP
      have hja := Lib.hid hj
      generalize sum % rows.length = j at *
      have HAPP := fun W6 (b : Below wr.heap.size wr W6) => Lib.hid (app_node hRj b ⟨sum, key, .int .i64 nv⟩ ⟨nv, rfl⟩ hrl)
      have hj2 : (j : Int) < rows.length := by omega
      clear hx fz hje hgd hrj hRj hT hS hI hF hvl hpl hvj hj HI HF HFAR H0
      go_wp2_with fail
      refine (HI2 _).out.mono ?_
      rintro e w1 ⟨rfl, hb1⟩
      have hbw : Below wr.heap.size wr w1 := ((Below.refl _ _).alloc (Nat.le_refl _) _).trans (hb1.mono (by simp))
      have k5 := (Blk.new wr 75 #[Value.int IntKind.u32 ↑sum, Value.string key, Value.int IntKind.i64 nv]).later (by simpa using hb1)
      obtain ⟨e0, f0⟩ := hcg _ hbw
      obtain ⟨gg, cap7, W7, hrun, r1, r2, r3⟩ := (HAPP _ (hbw.drew)).out
      obtain ⟨e6, f6⟩ := hcg _ (hbw.alloc hbw.size (Obj.cells #[Value.int IntKind.u32 ↑sum, Value.string key, Value.int IntKind.i64 nv] 75))
      have e7 : W7.cell? ⟨g, j, none⟩ = some vj := (r2.cell_far ⟨g, j, none⟩ (by have := hbw.size; simp; omega) (fun h => hog h.symm)).trans e6
      have f7 : W7.frozen? ⟨g, j, none⟩ = false := (r2.frozen_far ⟨g, j, none⟩ (by have := hbw.size; simp; omega) (fun h => hog h.symm)).trans f6
      have d0 := k5.cell 0
      have d1 := k5.cell 1
      have d2 := k5.cell 2
      have z1 := hbw.size
      have H1 := Lib.hid r1
      have H2 := Lib.hid r2
      have H3 := Lib.hid r3
      have HB := Lib.hid hbw
      clear r1 r2 r3 hbw hb1 k5
      unfold Nd.cells at hrun H2
      go_wp2
      go_region_law (refine step_append_ran rfl _ _ 67 67 (by rfl) (by rfl) (by rfl) hrun ?_)
      all_goals (
        go_wp2
        refine ⟨⟨k + 1, by go_num, hlt, ?_⟩, by simp [intOf]; omega⟩
        exact (HSTEP w1 w1.drew W7 HB.out ((Below.refl _ _).drew) _ gg cap7 H1.out H2.out H3.out).out)
    · obtain rfl : k = xs.length := by omega
      go_wp2
      go_returns
      exact ⟨rfl, hP⟩
end Go.Proofs.Ytifbambalfifaaa
