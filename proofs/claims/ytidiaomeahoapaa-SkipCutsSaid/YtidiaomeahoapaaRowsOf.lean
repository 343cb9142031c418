/- Lists of one's own in memory: entries, numbers; an append. -/
import Derived.Test.YtidiaomeahoapaaCut
import Derived.Laws.AppendOwn
namespace Go.Proofs.Ytidiaomeahoapaa
open Go.RowKit Go.Shelf
attribute [local go_sem] Oper.semAt_some

/-- An entry. -/
abbrev Ent := ByteArray × Int
def cellsE (l : List Ent) : List Value := l.flatMap fun e => [.string e.1, .int .i64 e.2]
theorem cellsE_append (a b : List Ent) : cellsE (a ++ b) = cellsE a ++ cellsE b := by simp [cellsE]
def cellsI (l : List Int) : List Value := l.map fun i => .int .i64 i
/-- A list of entries in memory of one's own. -/
def Own32 (W : World) (n0 : Nat) (v : Value) (l : List Ent) : Prop := W.ownsRow n0 32 2 v l.length (cellsE l)
/-- A list of numbers in memory of one's own. -/
def Own3 (W : World) (n0 : Nat) (v : Value) (l : List Int) : Prop := W.ownsRow n0 3 1 v l.length (cellsI l)

section
variable {e : TypeId} {sz : Nat}
theorem own_gen {β : Type} (B n0 : Nat) (v : Value) (k : β → Nat) (xs : β → List Value) : OwnFrom B (fun s W => W.ownsRow n0 e sz v (k s) (xs s)) := fun s X Y row hs hg hr =>
  World.ownsRow.kept hs hg (by
    rcases hs.2 with ⟨rfl, _⟩ | ⟨g, cap, cur, rfl, _, hgb, _⟩
    · exact .inl rfl
    · refine .inr (fun e => ?_)
      obtain ⟨_, o, ho, hc⟩ := hr g e.symm
      rw [hgb] at ho; cases ho; cases hc)
theorem own_later {W W6 : World} {n0 k : Nat} {r : Value} {xs : List Value} (h : W.ownsRow n0 e sz r k xs) (hb : Below W.heap.size W W6) : W6.ownsRow n0 e sz r k xs := World.ownsRow.kept h (below_grown hb) (by
  rcases h.2 with ⟨rfl, _⟩ | ⟨g, cap, cur, rfl, _⟩
  · exact .inl rfl
  · exact .inr (by simp [Value.ownBlock]))
theorem own_set {W : World} {n0 k : Nat} {r : Value} {xs : List Value} (h : W.ownsRow n0 e sz r k xs) (b o : Nat) (v : Value) (hb : b < n0) : (W.setCell ⟨b, o, none⟩ v).ownsRow n0 e sz r k xs := by
  refine ⟨h.1, ?_⟩
  rcases h.2 with hn | ⟨g, cap, cur, rfl, h1, h2, h3⟩
  · exact .inl hn
  · exact .inr ⟨g, cap, cur, rfl, h1, (Below.heap_setCell _ _ _ _ (by show g ≠ b; omega)).trans h2, h3⟩
theorem own_mono {w : World} {base base' : Nat} {v : Value} {n : Nat} {xs : List Value} (h : w.ownsRow base e sz v n xs) (hb : base' ≤ base) : w.ownsRow base' e sz v n xs := by
  refine ⟨h.1, ?_⟩
  rcases h.2 with hn | ⟨g, cap, cur, rfl, hb', rest⟩
  · exact .inl hn
  · exact .inr ⟨g, cap, cur, rfl, Nat.le_trans hb hb', rest⟩
theorem own_aside {W W' : World} {n0 k N : Nat} {r : Value} {xs : List Value} (h : W.ownsRow n0 e sz r k xs) (ha : Aside N W W') (he : e ≠ 69) : W'.ownsRow n0 e sz r k xs := by
  refine ⟨h.1, ?_⟩
  rcases h.2 with hn | ⟨g, cap, cur, rfl, h1, h2, h3⟩
  · exact .inl hn
  · exact .inr ⟨g, cap, cur, rfl, h1, ha.block _ _ h2 (.inr fun c e2 => by simp at e2; exact he e2.2), h3⟩
/-- What an append leaves of other blocks. -/
theorem Blk.grown {W W7 : World} {b n0 k : Nat} {t : TypeId} {c : Array Value} {r : Value} {xs : List Value} {o : Obj} (h : Blk W b t c) (hg : (W.alloc o).grownBy W7 r.ownBlock) (ho : W.ownsRow n0 e sz r k xs) (ht : t ≠ e) : Blk W7 b t c :=
  (hg.block b (h.alloc o).lt (fun e2 => by
    rcases ho.2 with ⟨rfl, _⟩ | ⟨g, cap, cur, rfl, _, hgb, _⟩
    · simp [Value.ownBlock] at e2
    · simp [Value.ownBlock] at e2
      subst e2
      have := (show W.heap[b]? = _ from h).symm.trans hgb
      simp at this
      exact ht this.2)).trans (h.alloc o)
theorem app_end {w0 W W6 W7 : World} {o : Obj} {b n0 t k k' : Nat} {r v' : Value} {l l' : List Value} (h : Blk W b t #[r]) (ho : W.ownsRow n0 e sz r k l) (hb6 : Below W.heap.size W W6) (hgrow : (W6.alloc o).grownBy W7 r.ownBlock) (ho7 : W7.ownsRow n0 e sz v' k' l') (hbn : b < n0)
    (hB : Below w0.heap.size w0 W) (hw : w0.heap.size ≤ b) (ht : t ≠ e) (het : ¬ itT e) (htt : ¬ itT t) (B : Nat) (L : List Nat) :
    KeepsFrom B W (W7.setCell ⟨b, 0, none⟩ v') ∧ KeepC L W (W7.setCell ⟨b, 0, none⟩ v') ∧ Below w0.heap.size w0 (W7.setCell ⟨b, 0, none⟩ v') ∧ Blk (W7.setCell ⟨b, 0, none⟩ v') b t #[v'] ∧ (W7.setCell ⟨b, 0, none⟩ v').ownsRow n0 e sz v' k' l' := by
  have h7 := (h.later hb6).grown hgrow (own_later ho hb6) ht
  have hs6 := hb6.size
  have hsw := hB.size
  refine ⟨?_, ?_, ?_, h7.set 0 v', ?_⟩
  · refine (((KeepsFrom.of_grownBy (row := none) (below_grown hb6) (fun _ h => by cases h)).trans ((KeepsOthers.alloc _ _).from _)).trans ((KeepsOthers.of_grownBy hgrow fun j o ej hj => ?_).from B)).trans ((KeepsOthers.setCell _ _ _).from _)
    rcases (World.ownsRow.alloc (own_later ho hb6) _).2 with ⟨rfl, _⟩ | ⟨g, cap, cur, rfl, _, hgb, _⟩
    · simp [Value.ownBlock] at ej
    · obtain rfl : g = j := by simpa [Value.ownBlock] using ej
      rw [hgb] at hj; cases hj; rfl
  · refine (((KeepC.of_below hb6).trans (KeepC.of_below ((Below.refl _ _).alloc (Nat.le_refl _) _))).trans (KeepC.of_grownBy hgrow fun k c t ek hk => ?_)).trans (KeepC.of_grownBy (row := some b) (grownBy_setCell' _ _ _) fun k c t ek hk => ?_)
    · rcases (World.ownsRow.alloc (own_later ho hb6) o).2 with ⟨rfl, _⟩ | ⟨g, cap, cur, rfl, _, hgb, _⟩
      · simp [Value.ownBlock] at ek
      · obtain rfl : g = k := by simpa [Value.ownBlock] using ek
        rw [hgb] at hk; cases hk
        exact het
    · cases ek
      rw [show W7.heap[b]? = _ from h7] at hk; cases hk
      exact htt
  · refine (((hB.trans (hb6.mono hsw)).alloc (by omega) o).grown hgrow (by simp; omega) fun k ek => ?_).setCell (p := ⟨b, 0, none⟩) hw v'
    have := (World.ownsRow.lt ho k ek).1
    omega
  · exact own_set ho7 b 0 v' hbn
end

theorem info32 : (Try.prog.info? 32).map (fun i => (i.zero, i.size, i.bytes)) = some (some (.agg #[.string ⟨#[]⟩, .int .i64 0]), 2, 24) := by kernel_rfl
theorem info3 : (Try.prog.info? 3).map (fun i => (i.zero, i.size, i.bytes)) = some (some (.int .i64 0), 1, 8) := by kernel_rfl

theorem app_ent {W W6 : World} {n0 : Nat} {r : Value} {l : List Ent} (hown : Own32 W n0 r l) (hb : Below W.heap.size W W6) (e : Ent) (hl : l.length ≤ 1000000000) (hn : n0 ≤ W6.heap.size) :
    ∃ g cap W7, (Builtin.append_ #[27, 27] 27 #[r, .slice (some ⟨W6.heap.size, 0, none⟩) 1 1]).run Try.prog (W6.alloc (.cells #[.string e.1, .int .i64 e.2] 32)) = .ok (.slice (some ⟨g, 0, none⟩) (l.length + 1) cap) W7 ∧
      Own32 W7 n0 (.slice (some ⟨g, 0, none⟩) (l.length + 1) cap) (l ++ [e]) ∧ (W6.alloc (.cells #[.string e.1, .int .i64 e.2] 32)).grownBy W7 r.ownBlock := by
  obtain ⟨i0, hi0, hz0, hz1, hz2⟩ := info_parts info32
  obtain ⟨v', w', hrun, r1, r2, r3⟩ := run_append_own (P := Try.prog) (W6.alloc (.cells #[.string e.1, .int .i64 e.2] 32)) n0 27 27 32 i0 _ 2 24 Try.underlying27 hi0 hz0 hz1 hz2 rfl (by decide) r _ _ (World.ownsRow.alloc (own_later hown hb) _) ⟨W6.heap.size, 0, none⟩ 1 1 [.string e.1, .int .i64 e.2] rfl
    (fun j u hj => by
      have hB := Blk.new W6 32 #[.string e.1, .int .i64 e.2]
      match j, hj with
      | 0, hj => simp at hj; subst hj; exact hB.cell 0
      | 1, hj => simp at hj; subst hj; simp [Addr.add]
      | j + 2, hj => simp at hj)
    (by simp [Value.oneCell']) (by unfold maxLen; omega) (by omega) (by simp; omega)
  have r1' : Own32 w' n0 v' (l ++ [e]) := by
    unfold Own32
    rw [cellsE_append, List.length_append]
    exact r1
  rcases r1.2 with ⟨rfl, h0⟩ | ⟨g, cap, cur, rfl, _⟩
  · omega
  · exact ⟨g, cap, w', hrun, r1', r2⟩
theorem app_int {W W6 : World} {n0 : Nat} {r : Value} {l : List Int} (hown : Own3 W n0 r l) (hb : Below W.heap.size W W6) (e : Int) (hl : l.length ≤ 1000000000) (hn : n0 ≤ W6.heap.size) :
    ∃ g cap W7, (Builtin.append_ #[28, 28] 28 #[r, .slice (some ⟨W6.heap.size, 0, none⟩) 1 1]).run Try.prog (W6.alloc (.cells #[.int .i64 e] 3)) = .ok (.slice (some ⟨g, 0, none⟩) (l.length + 1) cap) W7 ∧
      Own3 W7 n0 (.slice (some ⟨g, 0, none⟩) (l.length + 1) cap) (l ++ [e]) ∧ (W6.alloc (.cells #[.int .i64 e] 3)).grownBy W7 r.ownBlock := by
  obtain ⟨i0, hi0, hz0, hz1, hz2⟩ := info_parts info3
  obtain ⟨v', w', hrun, r1, r2, r3⟩ := run_append_own (P := Try.prog) (W6.alloc (.cells #[.int .i64 e] 3)) n0 28 28 3 i0 _ 1 8 Try.underlying28 hi0 hz0 hz1 hz2 rfl (by decide) r _ _ (World.ownsRow.alloc (own_later hown hb) _) ⟨W6.heap.size, 0, none⟩ 1 1 [.int .i64 e] rfl
    (fun j u hj => by
      have hB := Blk.new W6 3 #[.int .i64 e]
      match j, hj with
      | 0, hj => simp at hj; subst hj; exact hB.cell 0
      | j + 1, hj => simp at hj)
    (by simp [Value.oneCell']) (by unfold maxLen; omega) (by omega) (by simp; omega)
  have r1' : Own3 w' n0 v' (l ++ [e]) := by
    unfold Own3 cellsI
    rw [List.map_append, List.length_append]
    exact r1
  rcases r1.2 with ⟨rfl, h0⟩ | ⟨g, cap, cur, rfl, _⟩
  · omega
  · exact ⟨g, cap, w', hrun, r1', r2⟩

theorem stepIn_append {F : Fence} {n : Nat} {P : Program} {ops : Array Oper} {o : Oper} {a : Act} {w w' : World} {K : Act → World → Prop} {Q : Exit → Act → World → Prop} {E : Prop} {v xv v' : Value} (hgd : o.guard = none) (s x : Operand) (t u : TypeId)
    (ho : o.op = Op.call { callee := Callee.builtin Builtin.append, args := #[s, x], argTypes := #[t, u] }) (hs : a.eval s = v) (hx : a.eval x = xv) (hrun : (Builtin.append_ #[t, u] o.type #[v, xv]).run P w = .ok v' w')
    (h : K (a.put o.dst v') w') : if Region.wanted o (yielded ops a.tmps) = true then Oper.wpIn F n P o a w K Q else E := by
  have hw : Region.wanted o (yielded ops a.tmps) = true := by simp [Region.wanted, hgd]
  rw [if_pos hw]
  unfold Oper.wpIn
  refine ⟨?_, ?_⟩
  · simp [Oper.about, ho, resolve, Target.leads, Sem.run_pure]
  · rw [Oper.semAt_plain F _ _ (by rw [ho]; intro c hc'; cases hc')]
    simp [execOp, ho, resolve, invoke, builtin, hs, hx, hrun, Result.andThen]
    exact h
end Go.Proofs.Ytidiaomeahoapaa
