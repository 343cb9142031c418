/- Texts of one kind in one: RefSeek, Apps, RefCut. -/
import Derived.Test.YtidiaomeahoapaaQ07
import Derived.Test.YtidiaomeahoapaaQ11
/- The reference's Seek. -/
namespace Go.Proofs.Ytidiaomeahoapaa
open Go.RowKit Go.Shelf
attribute [local go_sem] Oper.semAt_some

/-- Entries behind an address or none. -/
def Ents (W : World) (a : Option Addr) (l : List Ent) : Prop := ∀ i e, l[i]? = some e → ∃ b off, a = some ⟨b, off, none⟩ ∧ W.cell? ⟨b, off + i * 2, none⟩ = some (.string e.1) ∧ W.cell? ⟨b, off + i * 2 + 1, none⟩ = some (.int .i64 e.2)
theorem Ents.later {W W' : World} {a : Option Addr} {l : List Ent} (h : Ents W a l) (hb : Below W.heap.size W W') : Ents W' a l := fun i e hi => by
  obtain ⟨b, off, e1, c0, c1⟩ := h i e hi
  exact ⟨b, off, e1, (hb.cell (World.block_lt_of_cell? W _ c0)).trans c0, (hb.cell (World.block_lt_of_cell? W _ c1)).trans c1⟩
def cntE (l : List Ent) (m : ByteArray) (s : Int) : Nat := (l.filter fun z => lessE z.1 z.2 m s).length
def anyE (l : List Ent) (m : ByteArray) (s : Int) : Bool := l.any fun z => decide (z.1 = m ∧ z.2 = s)
theorem cnt_snoc (l : List Ent) (k : Nat) (x : Ent) (h : l[k]? = some x) (m : ByteArray) (s : Int) : cntE (l.take (k + 1)) m s = cntE (l.take k) m s + (if lessE x.1 x.2 m s then 1 else 0) := by
  obtain ⟨hi, rfl⟩ := List.getElem?_eq_some_iff.1 h
  unfold cntE
  rw [List.take_succ_eq_append_getElem hi, List.filter_append, List.length_append]
  congr 1
  by_cases h : lessE l[k].1 l[k].2 m s = true <;> simp [h]
theorem any_snoc (l : List Ent) (k : Nat) (x : Ent) (h : l[k]? = some x) (m : ByteArray) (s : Int) : anyE (l.take (k + 1)) m s = (anyE (l.take k) m s || decide (x.1 = m ∧ x.2 = s)) := by
  obtain ⟨hi, rfl⟩ := List.getElem?_eq_some_iff.1 h
  unfold anyE
  rw [List.take_succ_eq_append_getElem hi, List.any_append]
  simp
theorem cnt_le (l : List Ent) (k : Nat) (m : ByteArray) (s : Int) : cntE (l.take k) m s ≤ l.length := by
  unfold cntE
  exact Nat.le_trans (List.length_filter_le _ _) (by rw [List.length_take]; exact Nat.min_le_right _ _)
theorem cnt_pos {L : List Nd} (hs : Srt L) (m : ByteArray) (s : Int) : cntE (L.map en) m s = pos L m s := by
  unfold cntE pos
  induction L with
  | nil => rfl
  | cons x L ih =>
    have hs' : Srt L := (List.pairwise_cons.1 hs).2
    rw [List.map_cons]
    by_cases h : lessE x.m x.s m s = true
    · simp [en, h]
      simpa [en] using ih hs'
    · have h0 : (L.map en).filter (fun z => lessE z.1 z.2 m s) = [] := by
        rw [List.filter_eq_nil_iff]
        intro z hz
        obtain ⟨y, hy, rfl⟩ := List.mem_map.1 hz
        have h1 := (List.pairwise_cons.1 hs).1 y hy
        intro h2
        exact h (less_tr h1 h2)
      simp [en, h]
      simpa [en] using h0
theorem any_has {L : List Nd} (hs : Srt L) (m : ByteArray) (s : Int) : anyE (L.map en) m s = has L m s := by
  cases hh : has L m s with
  | true =>
    unfold has at hh
    split at hh
    · rename_i x hx
      unfold anyE
      rw [List.any_eq_true]
      exact ⟨en x, List.mem_map_of_mem (List.mem_of_getElem? hx), hh⟩
    · cases hh
  | false =>
    unfold anyE
    rw [List.any_eq_false]
    intro z hz
    obtain ⟨x, hx, rfl⟩ := List.mem_map.1 hz
    intro hd
    have hd' : x.m = m ∧ x.s = s := of_decide_eq_true hd
    obtain ⟨i, hi⟩ := List.mem_iff_getElem?.1 hx
    have := (pos_self hs hi).2
    rw [hd'.1, hd'.2, hh] at this
    cases this

set_option maxRecDepth 100000 in
set_option maxHeartbeats 4000000 in
theorem refSeek_any (a : Option Addr) (cap : Nat) (l : List Ent) (hl : l.length ≤ 1000000) (hz : ∀ z ∈ l, z.1.size ≤ 281474976710656) (m : ByteArray) (hm : m.size ≤ 281474976710656) (s : Int) (w : World) (hE : Ents w a l) :
    Calls Try.prog 33 #[.slice a l.length cap, .agg #[.string m, .int .i64 s]] w fun e w' => e = .returned (.tuple #[.int .i64 (cntE l m s), .bool (anyE l m s)]) ∧ Below w.heap.size w w' := by
  have HE := Lib.hid hE
  have HZ := Lib.hid hz
  have HM := Lib.hid hm
  have kE : Blk (w.alloc (.cells #[.string m, .int .i64 s] 32)) w.heap.size 32 #[.string m, .int .i64 s] := Blk.new _ _ _
  have hb0 := alloc_below w (Obj.cells #[.string m, .int .i64 s] 32)
  have KE := Lib.hid kE
  have HB0 := Lib.hid hb0
  clear hE hz hm kE hb0
  go_enter Try.func33, Try.ntmps33
  go_wp2_with fail
  obtain ⟨w0, hw0⟩ : ∃ w0, w0 = w.alloc (.cells #[.string m, .int .i64 s] 32) := ⟨_, rfl⟩
  rw [← hw0] at KE HB0
  try rw [← hw0]
  clear hw0
  go_loopw [6, 7, 8] (fun n q i wr => ∃ (k : Nat), i = .int .i64 k ∧ n = .int .i64 (cntE (l.take k) m s) ∧ q = .bool (anyE (l.take k) m s) ∧ k ≤ l.length ∧ Below w0.heap.size w0 wr) (fun _ _ i _ => l.length - (intOf i).toNat)
  case atStart => exact ⟨0, rfl, rfl, rfl, by omega, Below.refl _ _⟩
  case round =>
    obtain ⟨k, rfl, rfl, rfl, hk, hbr0⟩ := hrel
    have hbr := HB0.out.trans (hbr0.mono HB0.out.size)
    obtain ⟨e0, e1, _, _⟩ := facts2 (KE.out.later hbr0)
    by_cases hlt : k < l.length
    · have hx : l[k]? = some l[k] := List.getElem?_eq_getElem hlt
      obtain ⟨b, off, rfl, p0, p1⟩ := HE.out.later hbr k _ hx
      have hs1 := cnt_snoc l k _ hx m s
      have hs2 := any_snoc l k _ hx m s
      have hcl := cnt_le l k m s
      have HL := fun w => Lib.hid (refLess_any l[k].1 m (HZ.out _ (List.getElem_mem hlt)) HM.out l[k].2 s w)
      generalize l[k] = x at *
      obtain ⟨xm, xs⟩ := x
      simp only at p0 p1 hs1 hs2 HL
      have hk2 : (k : Int) < l.length := by omega
      have HS1 := Lib.hid hs1
      have HS2 := Lib.hid hs2
      have heq := eq_ent xm m xs s _ rfl
      generalize decide (xm = m ∧ xs = s) = eqb at *
      generalize cntE (l.take k) m s = C at *
      generalize anyE (l.take k) m s = A at *
      generalize lessE xm xs m s = lb at *
      clear hx hbr HE HZ HM hs1 hs2
      have hend : ∀ w5 w6, Below wr.heap.size wr w5 → Below w5.heap.size w5 w6 → Below w0.heap.size w0 w6 := fun w5 w6 h1 h2 => hbr0.trans ((h1.trans (h2.mono h1.size)).mono hbr0.size)
      have HEND := Lib.hid hend
      clear hend
      go_wp2_with fail
      go_region_with ((go_at_call 45; refine (HL _).out.mono ?_; rintro e w5 ⟨rfl, hb5⟩))
      all_goals (
        have hb5 := (drewB wr 1).trans hb5
        have HB5 := Lib.hid hb5
        obtain ⟨e0', e1', _, _⟩ := facts2 (KE.out.later (hbr0.trans (hb5.mono hbr0.size)))
        have p0' : w5.cell? ⟨b, off + k * 2, none⟩ = _ := (hb5.cell (World.block_lt_of_cell? wr _ p0)).trans p0
        have p1' : w5.cell? ⟨b, off + k * 2 + 1, none⟩ = _ := (hb5.cell (World.block_lt_of_cell? wr _ p1)).trans p1
        clear hb5 HL p0 p1 e0 e1 hbr0
        have hw : IntKind.i64.wrap ((C : Int) + 1) = (C : Int) + 1 := IntWalk.i64_in _ (by omega)
        cases lb <;> cases A <;> (
          go_wp2_with fail
          try (go_quiet (fail); go_wp2_with fail)
          refine ⟨⟨k + 1, by go_num, by rw [HS1.out]; simp, by rw [HS2.out]; simp, hlt, HEND.out w5 _ HB5.out ?_⟩, by simp [intOf]; omega⟩
          first | exact Below.refl _ _ | exact drewB _ 1 | exact drewB _ _))
    · obtain rfl : k = l.length := by omega
      rw [List.take_of_length_le (Nat.le_refl _)] at *
      go_wp2
      go_returns
      exact ⟨rfl, hbr⟩
end Go.Proofs.Ytidiaomeahoapaa
/- Rows read flat; appending one row to another; parts of rows. -/
namespace Go.Proofs.Ytidiaomeahoapaa
open Go.RowKit Go.Shelf
attribute [local go_sem] Oper.semAt_some

/-- Cells behind an address or none. -/
def Flat (W : World) (a : Option Addr) (xs : List Value) : Prop := ∀ j u, xs[j]? = some u → ∃ b off, a = some ⟨b, off, none⟩ ∧ W.cell? ⟨b, off + j, none⟩ = some u
theorem Flat.later {W W' : World} {a : Option Addr} {xs : List Value} (h : Flat W a xs) (hb : Below W.heap.size W W') : Flat W' a xs := fun j u hj => by
  obtain ⟨b, off, e, c⟩ := h j u hj
  exact ⟨b, off, e, (hb.cell (World.block_lt_of_cell? W _ c)).trans c⟩
theorem Flat.far {S : Nat → Prop} {W W' : World} {a : Option Addr} {xs : List Value} (h : Flat W a xs) (hf : Far S W W') (hS : ∀ b off, a = some ⟨b, off, none⟩ → ¬ S b) : Flat W' a xs := fun j u hj => by
  obtain ⟨b, off, e, c⟩ := h j u hj
  have hb := hf.block b (World.block_lt_of_cell? W _ c) (hS b off e)
  exact ⟨b, off, e, by rw [← c]; unfold World.cell?; simp only [hb]⟩
theorem Flat.take {W : World} {a : Option Addr} {xs : List Value} (h : Flat W a xs) (k : Nat) : Flat W a (xs.take k) := fun j u hj => by
  have hl := (List.getElem?_eq_some_iff.1 hj).1
  rw [List.length_take] at hl
  rw [List.getElem?_take_of_lt (by omega)] at hj
  exact h j u hj
theorem Flat.drop {W : World} {a : Option Addr} {xs : List Value} (h : Flat W a xs) (k sz cap n : Nat) (hn : xs.length = n * sz) (hc : n ≤ cap) : Flat W (if cap = k then a else a.map (·.add (k * sz))) (xs.drop (k * sz)) := fun j u hj => by
  have hl := (List.getElem?_eq_some_iff.1 hj).1
  rw [List.length_drop] at hl
  rw [List.getElem?_drop] at hj
  obtain ⟨b, off, rfl, c⟩ := h _ u hj
  have hk : ¬ cap = k := by
    rintro rfl
    have := Nat.mul_le_mul_right sz hc
    omega
  rw [if_neg hk]
  refine ⟨b, off + k * sz, by simp [Addr.add_lit], ?_⟩
  rw [Nat.add_assoc]; exact c
theorem Flat.none {W : World} {xs : List Value} (h : Flat W none xs) : xs = [] := by
  cases xs with
  | nil => rfl
  | cons u xs => obtain ⟨b, off, e, _⟩ := h 0 u rfl; cases e
theorem cellsE_take (l : List Ent) : ∀ k, cellsE (l.take k) = (cellsE l).take (k * 2) := by
  induction l with
  | nil => intro k; simp [cellsE]
  | cons x l ih =>
    intro k
    cases k with
    | zero => simp [cellsE]
    | succ k =>
      rw [List.take_succ_cons, show cellsE (x :: l.take k) = .string x.1 :: .int .i64 x.2 :: cellsE (l.take k) from rfl, ih, show cellsE (x :: l) = .string x.1 :: .int .i64 x.2 :: cellsE l from rfl, show (k + 1) * 2 = k * 2 + 1 + 1 by omega, List.take_succ_cons, List.take_succ_cons]
theorem cellsE_drop (l : List Ent) : ∀ k, cellsE (l.drop k) = (cellsE l).drop (k * 2) := by
  induction l with
  | nil => intro k; simp [cellsE]
  | cons x l ih =>
    intro k
    cases k with
    | zero => simp
    | succ k =>
      rw [List.drop_succ_cons, ih, show cellsE (x :: l) = .string x.1 :: .int .i64 x.2 :: cellsE l from rfl, show (k + 1) * 2 = k * 2 + 1 + 1 by omega, List.drop_succ_cons, List.drop_succ_cons]
theorem cellsI_take (l : List Int) (k : Nat) : cellsI (l.take k) = (cellsI l).take (k * 1) := by unfold cellsI; rw [List.map_take, Nat.mul_one]
theorem cellsI_drop (l : List Int) (k : Nat) : cellsI (l.drop k) = (cellsI l).drop (k * 1) := by unfold cellsI; rw [List.map_drop, Nat.mul_one]
theorem cellsE_len (l : List Ent) : (cellsE l).length = l.length * 2 := by
  induction l with
  | nil => rfl
  | cons x l ih => rw [show cellsE (x :: l) = .string x.1 :: .int .i64 x.2 :: cellsE l from rfl]; simp [ih]; omega
theorem cellsI_len (l : List Int) : (cellsI l).length = l.length * 1 := by unfold cellsI; simp
theorem cellsE_one (xs : List Ent) : ∀ u ∈ cellsE xs, u.oneCell' = true := by
  intro u hu
  obtain ⟨e, _, he⟩ := List.mem_flatMap.1 hu
  simp at he
  rcases he with rfl | rfl <;> rfl
theorem cellsI_one (xs : List Int) : ∀ u ∈ cellsI xs, u.oneCell' = true := by
  intro u hu
  obtain ⟨e, _, rfl⟩ := List.mem_map.1 hu
  rfl
theorem cellsI_append (a b : List Int) : cellsI (a ++ b) = cellsI a ++ cellsI b := by unfold cellsI; rw [List.map_append]
theorem step_append_ran {P : Program} {ops : Array Oper} {o : Oper} {a : Act} {w w' : World} {K : Act → World → Prop} {Q : Exit → Act → World → Prop} {E : Prop} {v xv v' : Value} (hgd : o.guard = none) (s x : Operand) (t u : TypeId)
    (ho : o.op = Op.call { callee := Callee.builtin Builtin.append, args := #[s, x], argTypes := #[t, u] }) (hs : a.eval s = v) (hx : a.eval x = xv) (hrun : (Builtin.append_ #[t, u] o.type #[v, xv]).run P w = .ok v' w')
    (h : K (a.put o.dst v') w') : if Region.wanted o (yielded ops a.tmps) = true then Oper.wp P o a w K Q else E := by
  have hw : Region.wanted o (yielded ops a.tmps) = true := by simp [Region.wanted, hgd]
  rw [if_pos hw]
  unfold Oper.wp
  simp [execOp, ho, resolve, invoke, builtin, hs, hx, hrun, Result.andThen]
  exact h
theorem Flat.ents {W : World} {a : Option Addr} {l : List Ent} (h : Flat W a (cellsE l)) : Ents W a l := fun i e hi => by
  obtain ⟨c0, c1⟩ := cellsE_at l i e hi
  obtain ⟨b, off, e1, p0⟩ := h _ _ c0
  obtain ⟨b', off', e2, p1⟩ := h _ _ c1
  rw [e1] at e2
  cases e2
  exact ⟨b, off, e1, p0, by rw [← Nat.add_assoc] at p1; exact p1⟩

theorem app_flcellsE {W : World} {n0 : Nat} {r : Value} {l xs : List Ent} {a : Option Addr} (hown : Own32 W n0 r l) (hE : Flat W a (cellsE xs)) (cap : Nat) (hl : l.length ≤ 1000000) (hx : xs.length ≤ 1000000) (hn : n0 ≤ W.heap.size) :
    ∃ v' W', (Builtin.append_ #[27, 27] 27 #[r, .slice a xs.length cap]).run Try.prog W = .ok v' W' ∧ Own32 W' n0 v' (l ++ xs) ∧ W.grownBy W' r.ownBlock := by
  obtain ⟨i0, hi0, hz0, hz1, hz2⟩ := info_parts info32
  have hlen : (l ++ xs).length = l.length + xs.length := List.length_append
  cases a with
  | none =>
    have h0 : xs = [] := by
      have h1 : xs.length * 2 = 0 := by rw [← cellsE_len, hE.none]; rfl
      exact List.eq_nil_of_length_eq_zero (by omega)
    subst h0
    refine ⟨r, W, ?_, by rw [List.append_nil]; exact hown, World.grownBy.refl W _⟩
    rcases hown.2 with ⟨rfl, hl0⟩ | ⟨g, c, cur, rfl, _, _, hc, _⟩
    · simp [Builtin.append_, run_underlying Try.underlying27, sizeOf, typeInfo, hi0, Builtin.lenOf, Builtin.firstCells]
    · simp [Builtin.append_, run_underlying Try.underlying27, sizeOf, typeInfo, hi0, Builtin.lenOf, Builtin.firstCells, hc, storeCells]
  | some ad =>
    obtain ⟨v', W', h1, h2, h3, _⟩ := run_append_own (P := Try.prog) W n0 27 27 32 i0 _ 2 24 Try.underlying27 hi0 hz0 hz1 hz2 rfl (by decide) r _ _ hown ad xs.length cap (cellsE xs) (cellsE_len xs)
      (fun j u hu => by
        obtain ⟨b, off, h, c0⟩ := hE j u hu
        cases h
        rw [Addr.add_lit]; exact c0)
      (cellsE_one xs) (by unfold maxLen; omega) (by omega) hn
    refine ⟨v', W', h1, ?_, h3⟩
    unfold Own32
    rw [hlen, cellsE_append]
    exact h2
theorem step_appcellsE {ops : Array Oper} {o : Oper} {a : Act} {W : World} {K : Act → World → Prop} {Q : Exit → Act → World → Prop} {E : Prop} (hgd : o.guard = none) (s x : Operand)
    (ho : o.op = Op.call { callee := Callee.builtin Builtin.append, args := #[s, x], argTypes := #[27, 27] }) (hty : o.type = 27)
    {n0 : Nat} {r : Value} {l xs : List Ent} {ad : Option Addr} {m cap : Nat} (hs : a.eval s = r) (hx : a.eval x = .slice ad m cap) (hm : m = xs.length)
    (hown : Own32 W n0 r l) (hE : Flat W ad (cellsE xs)) (hl : l.length ≤ 1000000) (hxl : xs.length ≤ 1000000) (hn : n0 ≤ W.heap.size)
    (h : ∀ v' W', Own32 W' n0 v' (l ++ xs) → W.grownBy W' r.ownBlock → K (a.put o.dst v') W') : if Region.wanted o (yielded ops a.tmps) = true then Oper.wp Try.prog o a W K Q else E := by
  subst hm
  obtain ⟨v', W', hrun, h2, h3⟩ := app_flcellsE hown hE cap hl hxl hn
  exact step_append_ran hgd s x 27 27 ho hs hx (by rw [hty]; exact hrun) (h v' W' h2 h3)
theorem wpList_appcellsE {ops : Array Oper} {rest : List Oper} {o : Oper} {a : Act} {W : World} {Q : Exit → Act → World → Prop} (hgd : o.guard = none) (s x : Operand)
    (ho : o.op = Op.call { callee := Callee.builtin Builtin.append, args := #[s, x], argTypes := #[27, 27] }) (hty : o.type = 27)
    {n0 : Nat} {r : Value} {l xs : List Ent} {ad : Option Addr} {m cap : Nat} (hs : a.eval s = r) (hx : a.eval x = .slice ad m cap) (hm : m = xs.length)
    (hown : Own32 W n0 r l) (hE : Flat W ad (cellsE xs)) (hl : l.length ≤ 1000000) (hxl : xs.length ≤ 1000000) (hn : n0 ≤ W.heap.size)
    (h : ∀ v' W', Own32 W' n0 v' (l ++ xs) → W.grownBy W' r.ownBlock → wpList Try.prog ops Q rest (a.put o.dst v') W') : wpList Try.prog ops Q (o :: rest) a W := by
  subst hm
  obtain ⟨v', W', hrun, h2, h3⟩ := app_flcellsE hown hE cap hl hxl hn
  refine wpList_plain hgd fun K hK => ?_
  unfold Oper.wp
  simp [execOp, ho, resolve, invoke, builtin, hs, hx, hty, hrun, Result.andThen]
  exact hK _ _ (h v' W' h2 h3)

theorem app_flcellsI {W : World} {n0 : Nat} {r : Value} {l xs : List Int} {a : Option Addr} (hown : Own3 W n0 r l) (hE : Flat W a (cellsI xs)) (cap : Nat) (hl : l.length ≤ 1000000) (hx : xs.length ≤ 1000000) (hn : n0 ≤ W.heap.size) :
    ∃ v' W', (Builtin.append_ #[28, 28] 28 #[r, .slice a xs.length cap]).run Try.prog W = .ok v' W' ∧ Own3 W' n0 v' (l ++ xs) ∧ W.grownBy W' r.ownBlock := by
  obtain ⟨i0, hi0, hz0, hz1, hz2⟩ := info_parts info3
  have hlen : (l ++ xs).length = l.length + xs.length := List.length_append
  cases a with
  | none =>
    have h0 : xs = [] := by
      have h1 : xs.length * 1 = 0 := by rw [← cellsI_len, hE.none]; rfl
      exact List.eq_nil_of_length_eq_zero (by omega)
    subst h0
    refine ⟨r, W, ?_, by rw [List.append_nil]; exact hown, World.grownBy.refl W _⟩
    rcases hown.2 with ⟨rfl, hl0⟩ | ⟨g, c, cur, rfl, _, _, hc, _⟩
    · simp [Builtin.append_, run_underlying Try.underlying28, sizeOf, typeInfo, hi0, Builtin.lenOf, Builtin.firstCells]
    · simp [Builtin.append_, run_underlying Try.underlying28, sizeOf, typeInfo, hi0, Builtin.lenOf, Builtin.firstCells, hc, storeCells]
  | some ad =>
    obtain ⟨v', W', h1, h2, h3, _⟩ := run_append_own (P := Try.prog) W n0 28 28 3 i0 _ 1 8 Try.underlying28 hi0 hz0 hz1 hz2 rfl (by decide) r _ _ hown ad xs.length cap (cellsI xs) (cellsI_len xs)
      (fun j u hu => by
        obtain ⟨b, off, h, c0⟩ := hE j u hu
        cases h
        rw [Addr.add_lit]; exact c0)
      (cellsI_one xs) (by unfold maxLen; omega) (by omega) hn
    refine ⟨v', W', h1, ?_, h3⟩
    unfold Own3
    rw [hlen, cellsI_append]
    exact h2
theorem step_appcellsI {ops : Array Oper} {o : Oper} {a : Act} {W : World} {K : Act → World → Prop} {Q : Exit → Act → World → Prop} {E : Prop} (hgd : o.guard = none) (s x : Operand)
    (ho : o.op = Op.call { callee := Callee.builtin Builtin.append, args := #[s, x], argTypes := #[28, 28] }) (hty : o.type = 28)
    {n0 : Nat} {r : Value} {l xs : List Int} {ad : Option Addr} {m cap : Nat} (hs : a.eval s = r) (hx : a.eval x = .slice ad m cap) (hm : m = xs.length)
    (hown : Own3 W n0 r l) (hE : Flat W ad (cellsI xs)) (hl : l.length ≤ 1000000) (hxl : xs.length ≤ 1000000) (hn : n0 ≤ W.heap.size)
    (h : ∀ v' W', Own3 W' n0 v' (l ++ xs) → W.grownBy W' r.ownBlock → K (a.put o.dst v') W') : if Region.wanted o (yielded ops a.tmps) = true then Oper.wp Try.prog o a W K Q else E := by
  subst hm
  obtain ⟨v', W', hrun, h2, h3⟩ := app_flcellsI hown hE cap hl hxl hn
  exact step_append_ran hgd s x 28 28 ho hs hx (by rw [hty]; exact hrun) (h v' W' h2 h3)
theorem wpList_appcellsI {ops : Array Oper} {rest : List Oper} {o : Oper} {a : Act} {W : World} {Q : Exit → Act → World → Prop} (hgd : o.guard = none) (s x : Operand)
    (ho : o.op = Op.call { callee := Callee.builtin Builtin.append, args := #[s, x], argTypes := #[28, 28] }) (hty : o.type = 28)
    {n0 : Nat} {r : Value} {l xs : List Int} {ad : Option Addr} {m cap : Nat} (hs : a.eval s = r) (hx : a.eval x = .slice ad m cap) (hm : m = xs.length)
    (hown : Own3 W n0 r l) (hE : Flat W ad (cellsI xs)) (hl : l.length ≤ 1000000) (hxl : xs.length ≤ 1000000) (hn : n0 ≤ W.heap.size)
    (h : ∀ v' W', Own3 W' n0 v' (l ++ xs) → W.grownBy W' r.ownBlock → wpList Try.prog ops Q rest (a.put o.dst v') W') : wpList Try.prog ops Q (o :: rest) a W := by
  subst hm
  obtain ⟨v', W', hrun, h2, h3⟩ := app_flcellsI hown hE cap hl hxl hn
  refine wpList_plain hgd fun K hK => ?_
  unfold Oper.wp
  simp [execOp, ho, resolve, invoke, builtin, hs, hx, hty, hrun, Result.andThen]
  exact hK _ _ (h v' W' h2 h3)
end Go.Proofs.Ytidiaomeahoapaa
/- The reference's list; its Cut. -/
namespace Go.Proofs.Ytidiaomeahoapaa
open Go.RowKit Go.Shelf
attribute [local go_sem] Oper.semAt_some

/-- The reference's list in memory. -/
structure RefAt (W : World) (r : Nat) (E : List Ent) (H : List Int) : Prop where
  ex : ∃ a c a' c', Blk W r 30 #[.slice a E.length c, .slice a' H.length c'] ∧ E.length ≤ c ∧ H.length ≤ c' ∧ Flat W a (cellsE E) ∧ Flat W a' (cellsI H)
  ty : (∀ b off n c, W.cell? ⟨r, 0, none⟩ = some (.slice (some ⟨b, off, none⟩) n c) → ∃ cur, Blk W b 32 cur) ∧ (∀ b off n c, W.cell? ⟨r, 1, none⟩ = some (.slice (some ⟨b, off, none⟩) n c) → ∃ cur, Blk W b 3 cur)
theorem RefAt.later {W W' : World} {r : Nat} {E : List Ent} {H : List Int} (h : RefAt W r E H) (hb : Below W.heap.size W W') : RefAt W' r E H := by
  obtain ⟨a, c, a', c', h1, h2, h3, h4, h5⟩ := h.ex
  have hr := h1.lt
  refine ⟨⟨a, c, a', c', h1.later hb, h2, h3, h4.later hb, h5.later hb⟩, fun b off n c h0 => ?_, fun b off n c h0 => ?_⟩
  · obtain ⟨cur, hk⟩ := h.ty.1 b off n c ((hb.cell (p := ⟨r, 0, none⟩) hr).symm.trans h0)
    exact ⟨cur, hk.later hb⟩
  · obtain ⟨cur, hk⟩ := h.ty.2 b off n c ((hb.cell (p := ⟨r, 1, none⟩) hr).symm.trans h0)
    exact ⟨cur, hk.later hb⟩
theorem Own32.flat {W : World} {n0 : Nat} {v : Value} {l : List Ent} (h : Own32 W n0 v l) : ∃ a c, v = .slice a l.length c ∧ l.length ≤ c ∧ Flat W a (cellsE l) := by
  rcases h.2 with ⟨rfl, h0⟩ | ⟨g, cap, cur, rfl, h1, h2, h3⟩
  · have hl : l = [] := List.eq_nil_of_length_eq_zero h0
    subst hl
    exact ⟨none, 0, rfl, Nat.le_refl _, fun j u h => by simp [cellsE] at h⟩
  · refine ⟨_, cap, rfl, h3.1, fun j u hj => ⟨g, 0, rfl, ?_⟩⟩
    have hl := (List.getElem?_eq_some_iff.1 hj).1
    rw [Nat.zero_add, h.cellAt j (by rwa [cellsE_len] at hl)]; exact hj
theorem Own3.flat {W : World} {n0 : Nat} {v : Value} {l : List Int} (h : Own3 W n0 v l) : ∃ a c, v = .slice a l.length c ∧ l.length ≤ c ∧ Flat W a (cellsI l) := by
  rcases h.2 with ⟨rfl, h0⟩ | ⟨g, cap, cur, rfl, h1, h2, h3⟩
  · have hl : l = [] := List.eq_nil_of_length_eq_zero h0
    subst hl
    exact ⟨none, 0, rfl, Nat.le_refl _, fun j u h => by simp [cellsI] at h⟩
  · refine ⟨_, cap, rfl, h3.1, fun j u hj => ⟨g, 0, rfl, ?_⟩⟩
    have hl := (List.getElem?_eq_some_iff.1 hj).1
    rw [Nat.zero_add, h.cellAt j (by rwa [cellsI_len] at hl)]; exact hj

/-- Where a cut begins and ends, held in the list. -/
def frN (f : Int) (n : Nat) : Nat := (max 0 (min f (n : Int))).toNat
def toN (f t : Int) (n : Nat) : Nat := (max (frN f n : Int) (min t (n : Int))).toNat
theorem frN_le (f : Int) (n : Nat) : frN f n ≤ n := by unfold frN; omega
theorem toN_le (f t : Int) (n : Nat) : frN f n ≤ toN f t n ∧ toN f t n ≤ n := by have := frN_le f n; unfold toN; omega

theorem Own32.flat' {W : World} {n0 : Nat} {v : Value} {l : List Ent} (h : Own32 W n0 v l) : ∃ a n c, v = .slice a n c ∧ Hid (n = l.length) := by
  obtain ⟨a, c, e, _⟩ := h.flat
  exact ⟨a, _, c, e, rfl⟩
theorem Own3.flat' {W : World} {n0 : Nat} {v : Value} {l : List Int} (h : Own3 W n0 v l) : ∃ a n c, v = .slice a n c ∧ Hid (n = l.length) := by
  obtain ⟨a, c, e, _⟩ := h.flat
  exact ⟨a, _, c, e, rfl⟩
theorem ty_own {W : World} {e : TypeId} {sz n0 k n c : Nat} {x : Option Addr} {xs : List Value} (h : W.ownsRow n0 e sz (.slice x n c) k xs) : ∀ b off, x = some ⟨b, off, none⟩ → ∃ cur, Blk W b e cur := fun b off hx => by
  rcases h.2 with ⟨e1, _⟩ | ⟨g, cap, cur, e1, _, h2, _⟩
  · cases e1; cases hx
  · cases e1; cases hx
    exact ⟨cur, h2⟩
theorem RefAt.mk' {W : World} {r n0 : Nat} {E : List Ent} {H : List Int} {v u : Value} (hk : Blk W r 30 #[v, u]) (q3 : Own32 W n0 v E) (q4 : Own3 W n0 u H) : RefAt W r E H := by
  obtain ⟨x, y, e1, z1, z2⟩ := Own32.flat q3
  obtain ⟨x', y', e2, z3, z4⟩ := Own3.flat q4
  cases e1
  cases e2
  refine ⟨⟨_, _, _, _, hk, z1, z3, z2, z4⟩, fun b off n c h0 => ?_, fun b off n c h0 => ?_⟩
  · rw [hk.cell] at h0
    simp at h0
    exact ty_own q3 b off h0.1
  · rw [hk.cell] at h0
    simp at h0
    exact ty_own q4 b off h0.1
theorem far_grown {S : Nat → Prop} {w W W' : World} {row : Option Nat} (h : Far S w W) (hg : W.grownBy W' row) (hr : ∀ k, row = some k → w.heap.size ≤ k) : Far S w W' :=
  ⟨hg.os.trans h.os, hg.tape.trans h.tape, hg.output.trans h.output, Nat.le_trans h.size hg.size, fun k hk hn => (hg.block k (Nat.lt_of_lt_of_le hk h.size) (fun e => by have := hr k e.symm; omega)).trans (h.block k hk hn)⟩
theorem blk_grown {W W' : World} {row : Option Nat} {r : Nat} {t : TypeId} {c : Array Value} {n0 : Nat} (h : Blk W r t c) (hg : W.grownBy W' row) (hr : ∀ k, row = some k → n0 ≤ k) (hn : r < n0) : Blk W' r t c :=
  (hg.block r h.lt (fun e => by have := hr r e.symm; omega)).trans h
theorem own_kept2 {W W' : World} {e e' : TypeId} {sz sz' n0 n0' k k' : Nat} {v v' : Value} {xs xs' : List Value} (h : W.ownsRow n0 e sz v k xs) (h' : W.ownsRow n0' e' sz' v' k' xs') (hne : e ≠ e') (hg : W.grownBy W' v'.ownBlock) : W'.ownsRow n0 e sz v k xs :=
  h.kept hg (by
    rcases h.2 with ⟨rfl, _⟩ | ⟨g, cap, cur, rfl, _, hgb, _⟩
    · exact .inl rfl
    · refine .inr fun e1 => ?_
      rcases h'.2 with ⟨rfl, _⟩ | ⟨g', cap', cur', rfl, _, hgb', _⟩
      · simp [Value.ownBlock] at e1
      · simp [Value.ownBlock] at e1
        subst e1
        rw [hgb] at hgb'
        simp at hgb'
        exact hne hgb'.2)
theorem own_block {W : World} {e : TypeId} {sz n0 k : Nat} {v : Value} {xs : List Value} (h : W.ownsRow n0 e sz v k xs) : ∀ q, v.ownBlock = some q → n0 ≤ q := fun q hq => (World.ownsRow.lt h q hq).1
theorem flat_now {w W : World} {r : Nat} {v u : Value} {a : Option Addr} {xs : List Value} (hk : Blk w r 30 #[v, u]) (h : Flat w a xs) (hx : ∀ z ∈ xs, z ≠ v ∧ z ≠ u) (hf : Far (fun k => k = r) w W) : Flat W a xs := by
  intro j z hj
  obtain ⟨b, off, e, c⟩ := h j z hj
  refine ⟨b, off, e, ?_⟩
  have hbr : b ≠ r := by
    rintro rfl
    have hz := hx z (List.mem_of_getElem? hj)
    rw [hk.cell] at c
    match off + j, c with
    | 0, c => simp at c; exact hz.1 c.symm
    | 1, c => simp at c; exact hz.2 c.symm
    | n + 2, c => simp at c
  have hb := hf.block b (World.block_lt_of_cell? w _ (show w.cell? ⟨b, off + j, none⟩ = some z from c)) hbr
  rw [← c]; unfold World.cell?; simp only [hb]
theorem cellsE_ne (l : List Ent) (a a' : Option Addr) (n n' c c' : Nat) : ∀ z ∈ cellsE l, z ≠ .slice a n c ∧ z ≠ .slice a' n' c' := by
  intro u hu
  obtain ⟨e, _, he⟩ := List.mem_flatMap.1 hu
  simp at he
  rcases he with rfl | rfl <;> exact ⟨(fun h => nomatch h), (fun h => nomatch h)⟩
theorem cellsI_ne (l : List Int) (a a' : Option Addr) (n n' c c' : Nat) : ∀ z ∈ cellsI l, z ≠ .slice a n c ∧ z ≠ .slice a' n' c' := by
  intro u hu
  obtain ⟨e, _, rfl⟩ := List.mem_map.1 hu
  exact ⟨(fun h => nomatch h), (fun h => nomatch h)⟩

set_option maxRecDepth 100000 in
set_option maxHeartbeats 4000000 in
theorem refCut_any (r : Nat) (E : List Ent) (H : List Int) (hl : E.length ≤ 1000) (hH : H.length = E.length) (f t : Int) (w : World) (hR : RefAt w r E H) :
    Calls Try.prog 34 #[.pointer (some ⟨r, 0, none⟩), .int .i64 f, .int .i64 t] w fun e w' => e = .returned (.int .i64 ((toN f t E.length : Int) - frN f E.length)) ∧
      RefAt w' r (E.take (frN f E.length) ++ E.drop (toN f t E.length)) (H.take (frN f E.length) ++ H.drop (toN f t E.length)) ∧ Far (fun k => k = r) w w' := by
  obtain ⟨a, c, a', c', kR, hc, hc', hE, hI⟩ := hR.ex
  have hF : max 0 (min f (E.length : Int)) = (frN f E.length : Int) := by unfold frN; omega
  have hT : max (frN f E.length : Int) (min t (E.length : Int)) = (toN f t E.length : Int) := by unfold toN; omega
  have hFl := frN_le f E.length
  obtain ⟨hFT, hTl⟩ := toN_le f t E.length
  generalize frN f E.length = F at *
  generalize toN f t E.length = T at *
  have hr := kR.lt
  have HK := Lib.hid kR
  have KE := fun W (hf : Far (fun k => k = r) w W) => flat_now kR hE (cellsE_ne E a a' _ _ c c') hf
  have KI := fun W (hf : Far (fun k => k = r) w W) => flat_now kR hI (cellsI_ne H a a' _ _ c c') hf
  have HE := fun W (hf : Far (fun k => k = r) w W) => Lib.hid (And.intro ((KE W hf).take (F * 2)) ((KE W hf).drop T 2 c E.length (cellsE_len E) hc))
  have HI := fun W (hf : Far (fun k => k = r) w W) => Lib.hid (And.intro ((KI W hf).take (F * 1)) ((KI W hf).drop T 1 c' H.length (cellsI_len H) hc'))
  simp only [← cellsE_take, ← cellsE_drop, ← cellsI_take, ← cellsI_drop] at HE HI
  simp only [Nat.mul_one] at HI
  obtain ⟨c0, c1, f0, f1⟩ := facts2 kR
  have h1 : (0 : Int) ≤ F := by omega
  have h2 : (F : Int) ≤ c := by omega
  have h3 : (F : Int) ≤ c' := by omega
  have h4 : (T : Int) ≤ E.length := by omega
  have h5 : (T : Int) ≤ H.length := by omega
  have h6 : (0 : Int) ≤ T := by omega
  have h7 : IntKind.i64.wrap ((T : Int) - F) = (T : Int) - F := IntWalk.i64_in _ (by omega)
  have L1 := Lib.hid (show (E.take F).length = F by simp; omega)
  have L2 := Lib.hid (show (H.take F).length = F by simp; omega)
  have L3 := Lib.hid (show (E.drop T).length = E.length - T from List.length_drop)
  have L4 := Lib.hid (show (H.drop T).length = H.length - T from List.length_drop)
  have L5 := Lib.hid (And.intro hl hH)
  clear hE hI KE KI kR hR hl hH hc hc'
  go_enter Try.func34, Try.ntmps34
  go_wp2_with (first
    | (at_builtin
       refine wpList_appcellsE rfl (.tmp 26) (.tmp 32) rfl rfl (n0 := w.heap.size) (r := .slice none 0 0) (l := []) (xs := E.take F) (ad := a) (m := F) rfl rfl L1.out.symm (World.ownsRow_nil _ _ _ _) (HE w (Far.refl _ _)).out.1 (by simp) (by rw [L1.out]; have := L5.out; omega) (Nat.le_refl _) ?_
       rintro v1 w1 ho1 hg1
       have FA1 := Lib.hid (far_grown (Far.refl (fun k => k = r) w) hg1 (fun _ h => by simp [Value.ownBlock] at h))
       have KA1 := Lib.hid (blk_grown (n0 := w.heap.size) HK.out hg1 (fun _ h => by simp [Value.ownBlock] at h) hr)
       obtain ⟨d0, d1, _, _⟩ := facts2 KA1.out
       have O1 := Lib.hid ho1
       clear ho1 hg1 c0 c1 f0 f1)
    | (at_builtin
       refine wpList_appcellsI rfl (.tmp 34) (.tmp 40) rfl rfl (n0 := w.heap.size) (r := .slice none 0 0) (l := []) (xs := H.take F) (ad := a') (m := F) rfl rfl L2.out.symm (World.ownsRow_nil _ _ _ _) (HI w1 FA1.out).out.1 (by simp) (by rw [L2.out]; have := L5.out; omega) FA1.out.size ?_
       rintro v2 w2 ho2 hg2
       have FA2 := Lib.hid (far_grown FA1.out hg2 (fun _ h => by simp [Value.ownBlock] at h))
       have KA2 := Lib.hid (blk_grown (n0 := w.heap.size) KA1.out hg2 (fun _ h => by simp [Value.ownBlock] at h) hr)
       obtain ⟨e0, e1, _, _⟩ := facts2 KA2.out
       have O1' := Lib.hid (own_kept2 O1.out (World.ownsRow_nil w1 w.heap.size 3 1) (by decide) hg2)
       have O2 := Lib.hid ho2
       clear ho2 hg2 d0 d1)
    | (at_builtin
       refine wpList_appcellsE rfl (.tmp 43) (.tmp 49) rfl rfl (n0 := w.heap.size) (r := v1) (l := [] ++ E.take F) (xs := E.drop T) (ad := if c = T then a else a.map (fun x => x.add (T * 2))) (m := E.length - T) rfl rfl L3.out.symm O1'.out (HE w2 FA2.out).out.2 (by rw [List.nil_append, L1.out]; have := L5.out; omega) (by rw [L3.out]; have := L5.out; omega) FA2.out.size ?_
       rintro v3 w3 ho3 hg3
       obtain ⟨x3, n3, y3, rfl, N3⟩ := ho3.flat'
       have FA3 := Lib.hid ((far_grown FA2.out hg3 (own_block O1'.out)).set ⟨r, 0, none⟩ (.slice x3 n3 y3) (.inl rfl))
       have KA3' := Lib.hid (blk_grown (n0 := w.heap.size) KA2.out hg3 (own_block O1'.out) hr)
       obtain ⟨g0, g1, g2, g3⟩ := facts2 KA3'.out
       have KA3 := Lib.hid (KA3'.out.set 0 (.slice x3 n3 y3))
       obtain ⟨i0, i1, i2, i3⟩ := facts2 KA3.out
       have O2' := Lib.hid (own_set (own_kept2 O2.out O1'.out (by decide) hg3) r 0 (.slice x3 n3 y3) hr)
       have O3 := Lib.hid (own_set ho3 r 0 (.slice x3 n3 y3) hr)
       clear ho3 hg3 e0 e1)
    | (at_builtin
       refine wpList_appcellsI rfl (.tmp 54) (.tmp 60) rfl rfl (n0 := w.heap.size) (r := v2) (l := [] ++ H.take F) (xs := H.drop T) (ad := if c' = T then a' else a'.map (fun x => x.add T)) (m := H.length - T) rfl rfl L4.out.symm O2'.out (HI _ FA3.out).out.2 (by rw [List.nil_append, L2.out]; have := L5.out; omega) (by rw [L4.out]; have := L5.out; omega) FA3.out.size ?_
       rintro v4 w4 ho4 hg4
       obtain ⟨x4, n4, y4, rfl, N4⟩ := ho4.flat'
       have FA4 := Lib.hid ((far_grown FA3.out hg4 (own_block O2'.out)).set ⟨r, 1, none⟩ (.slice x4 n4 y4) (.inl rfl))
       have KA4' := Lib.hid (blk_grown (n0 := w.heap.size) KA3.out hg4 (own_block O2'.out) hr)
       obtain ⟨j0, j1, j2, j3⟩ := facts2 KA4'.out
       have KA4 := Lib.hid (KA4'.out.set 1 (.slice x4 n4 y4))
       have O3' := Lib.hid (own_set (own_kept2 O3.out O2'.out (by decide) hg4) r 1 (.slice x4 n4 y4) hr)
       have O4 := Lib.hid (own_set ho4 r 1 (.slice x4 n4 y4) hr)
       clear ho4 hg4))
  all_goals (
    go_ret
    refine ⟨rfl, ?_, FA4.out⟩
    have q3 := O3'.out
    have q4 := O4.out
    rw [List.nil_append] at q3 q4
    exact RefAt.mk' KA4.out q3 q4)
end Go.Proofs.Ytidiaomeahoapaa
