/- Operations on maps; an append of one entry, of one slice, of one number. -/
import Derived.Test.YtjilfgkoibbcnaaDoorMaps
namespace Go.Proofs.YtjilfgkoibbcnaaDoor
open Go.RowKit Go.Shelf
attribute [local go_sem] Oper.semAt_some


theorem wpList_put {W : World} {ops : Array Oper} {rest : List Oper} {o : Oper} {a : Act} {Q : Exit → Act → World → Prop} (hg : o.guard = none) (m x v : Operand) (t : TypeId) (hop : o.op = Op.mapUpdate t m x v)
    (e : TypeId) (ht : Tryd.prog.underlying t = some (.map 9 e)) (he : Tryd.prog.underlying e = some (.int .i64)) {b : Nat} {M : List Ent} (hm : a.eval m = .map (some b)) (hM : MapIs W e b M) (hn : M.length ≤ 1000000)
    (key : ByteArray) (s : Int) (hx : a.eval x = .string key) (hv : a.eval v = .int .i64 s) (hk : key.size ≤ 1000000) (hs : I64 s)
    (hK : ∀ W', MapIs W' e b (putM M key s) → W.grownBy W' (some b) → wpList Tryd.prog ops Q rest (a.put o.dst undef) W') : wpList Tryd.prog ops Q (o :: rest) a W := by
  obtain ⟨D, h1, h2⟩ := hM
  refine wpList_mapUpdate_own W hg m x v t hop 9 e law9 ht _ b _ D hm h1 (by unfold maxLen; omega) _ _ _ hx hv (key_of key hk) _ [] (plainElem_int he hs.wf) ?_
  intro w1 hown1 hg1
  exact hK w1 (MapIs.of hown1 (h2.put (h1.tidy law9) key hk s)) hg1
theorem wpList_look {W : World} {ops : Array Oper} {rest : List Oper} {o : Oper} {a : Act} {Q : Exit → Act → World → Prop} (hg : o.guard = none) (m x : Operand) (t : TypeId) (hop : o.op = Op.lookup t m x false)
    (e : TypeId) (ht : Tryd.prog.underlying t = some (.map 9 e)) (he : Tryd.prog.underlying e = some (.int .i64)) (hz : (zeroValue e).run Tryd.prog W = .ok (.int .i64 0) W) {b : Nat} {M : List Ent} (hm : a.eval m = .map (some b)) (hM : MapIs W e b M)
    (key : ByteArray) (hx : a.eval x = .string key) (hk : key.size ≤ 1000000)
    (hK : wpList Tryd.prog ops Q rest (a.put o.dst (.int .i64 ((getM M key).getD 0))) W) : wpList Tryd.prog ops Q (o :: rest) a W := by
  obtain ⟨D, h1, h2⟩ := hM
  refine wpList_lookup_own_int W hg m x t hop 9 e .i64 law9 ht he hz b _ D hm h1 _ _ hx (key_of key hk) ?_
  intro c hc _
  rw [h2.look key hc]
  exact hK
theorem wpList_lookok {W : World} {ops : Array Oper} {rest : List Oper} {o : Oper} {a : Act} {Q : Exit → Act → World → Prop} (hg : o.guard = none) (m x : Operand) (t : TypeId) (hop : o.op = Op.lookup t m x true)
    (e : TypeId) (ht : Tryd.prog.underlying t = some (.map 9 e)) (he : Tryd.prog.underlying e = some (.int .i64)) (hz : (zeroValue e).run Tryd.prog W = .ok (.int .i64 0) W) {b : Nat} {M : List Ent} (hm : a.eval m = .map (some b)) (hM : MapIs W e b M)
    (key : ByteArray) (hx : a.eval x = .string key) (hk : key.size ≤ 1000000)
    (hK : wpList Tryd.prog ops Q rest (a.put o.dst (.tuple #[.int .i64 ((getM M key).getD 0), .bool (getM M key).isSome])) W) : wpList Tryd.prog ops Q (o :: rest) a W := by
  obtain ⟨D, h1, h2⟩ := hM
  refine wpList_lookup_own_ok_int W hg m x t hop 9 e .i64 law9 ht he hz b _ D hm h1 _ _ hx (key_of key hk) ?_
  intro c hc _
  rw [h2.look key hc, h2.has]
  exact hK
theorem wpList_del {W : World} {ops : Array Oper} {rest : List Oper} {o : Oper} {a : Act} {Q : Exit → Act → World → Prop} (hg : o.guard = none) (m x : Operand) (t : TypeId) (hop : o.op = Op.call { callee := Callee.builtin Builtin.delete, args := #[m, x], argTypes := #[t, 9] })
    (e : TypeId) (ht : Tryd.prog.underlying t = some (.map 9 e)) {b : Nat} {M : List Ent} (hm : a.eval m = .map (some b)) (hM : MapIs W e b M)
    (key : ByteArray) (hx : a.eval x = .string key) (hk : key.size ≤ 1000000)
    (hK : ∀ W', MapIs W' e b (delM M key) → W.grownBy W' (some b) → wpList Tryd.prog ops Q rest (a.put o.dst (.tuple #[])) W') : wpList Tryd.prog ops Q (o :: rest) a W := by
  obtain ⟨D, h1, h2⟩ := hM
  refine wpList_delete_own W hg m x t 9 hop e law9 ht _ b _ D hm h1 _ _ hx (key_of key hk) ?_
  intro w1 hown1 hg1
  exact hK w1 (MapIs.of hown1 (h2.del (h1.tidy law9) key)) hg1.grown

theorem wpListIn_put {F : Fence} {nF : Nat} {W : World} {ops : Array Oper} {rest : List Oper} {o : Oper} {a : Act} {Q : Exit → Act → World → Prop} (hg : o.guard = none) (m x v : Operand) (t : TypeId) (hop : o.op = Op.mapUpdate t m x v)
    (e : TypeId) (ht : Tryd.prog.underlying t = some (.map 9 e)) (he : Tryd.prog.underlying e = some (.int .i64)) {b : Nat} {M : List Ent} (hm : a.eval m = .map (some b)) (hM : MapIs W e b M) (hn : M.length ≤ 1000000)
    (key : ByteArray) (s : Int) (hx : a.eval x = .string key) (hv : a.eval v = .int .i64 s) (hk : key.size ≤ 1000000) (hs : I64 s)
    (hK : ∀ W', MapIs W' e b (putM M key s) → W.grownBy W' (some b) → wpListIn F nF Tryd.prog ops Q rest (a.put o.dst undef) W') : wpListIn F nF Tryd.prog ops Q (o :: rest) a W := by
  obtain ⟨D, h1, h2⟩ := hM
  refine wpListIn_mapUpdate_own W hg m x v t hop 9 e law9 ht _ b _ D hm h1 (by unfold maxLen; omega) _ _ _ hx hv (key_of key hk) _ [] (plainElem_int he hs.wf) ?_
  intro w1 hown1 hg1
  exact hK w1 (MapIs.of hown1 (h2.put (h1.tidy law9) key hk s)) hg1
theorem wpListIn_look {F : Fence} {nF : Nat} {W : World} {ops : Array Oper} {rest : List Oper} {o : Oper} {a : Act} {Q : Exit → Act → World → Prop} (hg : o.guard = none) (m x : Operand) (t : TypeId) (hop : o.op = Op.lookup t m x false)
    (e : TypeId) (ht : Tryd.prog.underlying t = some (.map 9 e)) (he : Tryd.prog.underlying e = some (.int .i64)) (hz : (zeroValue e).run Tryd.prog W = .ok (.int .i64 0) W) {b : Nat} {M : List Ent} (hm : a.eval m = .map (some b)) (hM : MapIs W e b M)
    (key : ByteArray) (hx : a.eval x = .string key) (hk : key.size ≤ 1000000)
    (hK : wpListIn F nF Tryd.prog ops Q rest (a.put o.dst (.int .i64 ((getM M key).getD 0))) W) : wpListIn F nF Tryd.prog ops Q (o :: rest) a W := by
  obtain ⟨D, h1, h2⟩ := hM
  refine wpListIn_lookup_own_int W hg m x t hop 9 e .i64 law9 ht he hz b _ D hm h1 _ _ hx (key_of key hk) ?_
  intro c hc _
  rw [h2.look key hc]
  exact hK
theorem wpListIn_lookok {F : Fence} {nF : Nat} {W : World} {ops : Array Oper} {rest : List Oper} {o : Oper} {a : Act} {Q : Exit → Act → World → Prop} (hg : o.guard = none) (m x : Operand) (t : TypeId) (hop : o.op = Op.lookup t m x true)
    (e : TypeId) (ht : Tryd.prog.underlying t = some (.map 9 e)) (he : Tryd.prog.underlying e = some (.int .i64)) (hz : (zeroValue e).run Tryd.prog W = .ok (.int .i64 0) W) {b : Nat} {M : List Ent} (hm : a.eval m = .map (some b)) (hM : MapIs W e b M)
    (key : ByteArray) (hx : a.eval x = .string key) (hk : key.size ≤ 1000000)
    (hK : wpListIn F nF Tryd.prog ops Q rest (a.put o.dst (.tuple #[.int .i64 ((getM M key).getD 0), .bool (getM M key).isSome])) W) : wpListIn F nF Tryd.prog ops Q (o :: rest) a W := by
  obtain ⟨D, h1, h2⟩ := hM
  refine wpListIn_lookup_own_ok_int W hg m x t hop 9 e .i64 law9 ht he hz b _ D hm h1 _ _ hx (key_of key hk) ?_
  intro c hc _
  rw [h2.look key hc, h2.has]
  exact hK
theorem wpListIn_del {F : Fence} {nF : Nat} {W : World} {ops : Array Oper} {rest : List Oper} {o : Oper} {a : Act} {Q : Exit → Act → World → Prop} (hg : o.guard = none) (m x : Operand) (t : TypeId) (hop : o.op = Op.call { callee := Callee.builtin Builtin.delete, args := #[m, x], argTypes := #[t, 9] })
    (e : TypeId) (ht : Tryd.prog.underlying t = some (.map 9 e)) {b : Nat} {M : List Ent} (hm : a.eval m = .map (some b)) (hM : MapIs W e b M)
    (key : ByteArray) (hx : a.eval x = .string key) (hk : key.size ≤ 1000000)
    (hK : ∀ W', MapIs W' e b (delM M key) → W.grownBy W' (some b) → wpListIn F nF Tryd.prog ops Q rest (a.put o.dst (.tuple #[])) W') : wpListIn F nF Tryd.prog ops Q (o :: rest) a W := by
  obtain ⟨D, h1, h2⟩ := hM
  refine wpListIn_delete_own W hg m x t 9 hop e law9 ht _ b _ D hm h1 _ _ hx (key_of key hk) ?_
  intro w1 hown1 hg1
  exact hK w1 (MapIs.of hown1 (h2.del (h1.tidy law9) key)) hg1.grown

theorem info38 : (Tryd.prog.info? 38).map (fun i => (i.zero, i.size, i.bytes)) = some (some (.agg #[.string ⟨#[]⟩, .int .i64 0]), 2, 24) := by kernel_rfl
theorem info26 : (Tryd.prog.info? 26).map (fun i => (i.zero, i.size, i.bytes)) = some (some (.slice none 0 0), 1, 24) := by kernel_rfl
theorem info2 : (Tryd.prog.info? 2).map (fun i => (i.zero, i.size, i.bytes)) = some (some (.int .i64 0), 1, 8) := by kernel_rfl

theorem app_ent {W W6 : World} {n0 : Nat} {r : Value} {l : List Ent} (hown : Own W n0 r l) (hb : Below W.heap.size W W6) (e : Ent) (hl : l.length ≤ 1000000000) (hn : n0 ≤ W6.heap.size) :
    ∃ g cap W7, (Builtin.append_ #[26, 26] 26 #[r, .slice (some ⟨W6.heap.size, 0, none⟩) 1 1]).run Tryd.prog (W6.alloc (.cells #[.string e.1, .int .i64 e.2] 38)) = .ok (.slice (some ⟨g, 0, none⟩) (l.length + 1) cap) W7 ∧
      Own W7 n0 (.slice (some ⟨g, 0, none⟩) (l.length + 1) cap) (l ++ [e]) ∧ (W6.alloc (.cells #[.string e.1, .int .i64 e.2] 38)).grownBy W7 r.ownBlock := by
  obtain ⟨i0, hi0, hz0, hz1, hz2⟩ := info_parts info38
  obtain ⟨v', w', hrun, r1, r2, r3⟩ := run_append_own (P := Tryd.prog) (W6.alloc (.cells #[.string e.1, .int .i64 e.2] 38)) n0 26 26 38 i0 _ 2 24 Tryd.underlying26 hi0 hz0 hz1 hz2 rfl (by decide) r _ _ (World.ownsRow.alloc (own_later hown hb) _) ⟨W6.heap.size, 0, none⟩ 1 1 [.string e.1, .int .i64 e.2] rfl
    (fun j u hj => by
      have hB := Blk.new W6 38 #[.string e.1, .int .i64 e.2]
      match j, hj with
      | 0, hj => simp at hj; subst hj; exact hB.cell 0
      | 1, hj => simp at hj; subst hj; simp [Addr.add]
      | j + 2, hj => simp at hj)
    (by simp [Value.oneCell']) (by unfold maxLen; omega) (by omega) (by simp; omega)
  have r1' : Own w' n0 v' (l ++ [e]) := by
    unfold Own
    rw [cellsE_append, List.length_append]
    exact r1
  rcases r1.2 with ⟨rfl, h0⟩ | ⟨g, cap, cur, rfl, _⟩
  · omega
  · exact ⟨g, cap, w', hrun, r1', r2⟩
theorem wpList_append_ran {P : Program} {w w' : World} {ops : Array Oper} {rest : List Oper} {o : Oper} {a : Act} {Q : Exit → Act → World → Prop} {v xv v' : Value} (hgd : o.guard = none) (s x : Operand) (t u : TypeId)
    (ho : o.op = Op.call { callee := Callee.builtin Builtin.append, args := #[s, x], argTypes := #[t, u] }) (hs : a.eval s = v) (hx : a.eval x = xv) (hrun : (Builtin.append_ #[t, u] o.type #[v, xv]).run P w = .ok v' w')
    (h : wpList P ops Q rest (a.put o.dst v') w') : wpList P ops Q (o :: rest) a w := by
  refine wpList_plain hgd fun K hK => ?_
  unfold Oper.wp
  simp [execOp, ho, resolve, invoke, builtin, hs, hx, hrun, Result.andThen]
  exact hK _ _ h
theorem step_append_ran {P : Program} {ops : Array Oper} {o : Oper} {a : Act} {w w' : World} {K : Act → World → Prop} {Q : Exit → Act → World → Prop} {E : Prop} {v xv v' : Value} (hgd : o.guard = none) (s x : Operand) (t u : TypeId)
    (ho : o.op = Op.call { callee := Callee.builtin Builtin.append, args := #[s, x], argTypes := #[t, u] }) (hs : a.eval s = v) (hx : a.eval x = xv) (hrun : (Builtin.append_ #[t, u] o.type #[v, xv]).run P w = .ok v' w')
    (h : K (a.put o.dst v') w') : if Region.wanted o (yielded ops a.tmps) = true then Oper.wp P o a w K Q else E := by
  have hw : Region.wanted o (yielded ops a.tmps) = true := by simp [Region.wanted, hgd]
  rw [if_pos hw]
  unfold Oper.wp
  simp [execOp, ho, resolve, invoke, builtin, hs, hx, hrun, Result.andThen]
  exact h
theorem app_slice {W W6 : World} {n0 : Nat} {r : Value} {vs : List Value} (hown : OwnS W n0 r vs) (hb : Below W.heap.size W W6) (v : Value) (hv : v.oneCell' = true) (hl : vs.length ≤ 1000000000) (hn : n0 ≤ W6.heap.size) :
    ∃ g cap W7, (Builtin.append_ #[22, 22] 22 #[r, .slice (some ⟨W6.heap.size, 0, none⟩) 1 1]).run Tryd.prog (W6.alloc (.cells #[v] 26)) = .ok (.slice (some ⟨g, 0, none⟩) (vs.length + 1) cap) W7 ∧
      OwnS W7 n0 (.slice (some ⟨g, 0, none⟩) (vs.length + 1) cap) (vs ++ [v]) ∧ (W6.alloc (.cells #[v] 26)).grownBy W7 r.ownBlock := by
  obtain ⟨i0, hi0, hz0, hz1, hz2⟩ := info_parts info26
  obtain ⟨v', w', hrun, r1, r2, r3⟩ := run_append_own (P := Tryd.prog) (W6.alloc (.cells #[v] 26)) n0 22 22 26 i0 _ 1 24 Tryd.underlying22 hi0 hz0 hz1 hz2 rfl (by decide) r _ _ (World.ownsRow.alloc (own_later hown hb) _) ⟨W6.heap.size, 0, none⟩ 1 1 [v] rfl
    (fun j u hj => by
      have hB := Blk.new W6 26 #[v]
      match j, hj with
      | 0, hj => simp at hj; subst hj; exact hB.cell 0
      | j + 1, hj => simp at hj)
    (by simpa using hv) (by unfold maxLen; omega) (by omega) (by simp; omega)
  have r1' : OwnS w' n0 v' (vs ++ [v]) := by
    unfold OwnS
    rw [List.length_append]
    exact r1
  rcases r1.2 with ⟨rfl, h0⟩ | ⟨g, cap, cur, rfl, _⟩
  · omega
  · exact ⟨g, cap, w', hrun, r1', r2⟩
theorem app_int {W W6 : World} {n0 : Nat} {r : Value} {l : List Int} (hown : OwnI W n0 r l) (hb : Below W.heap.size W W6) (e : Int) (hl : l.length ≤ 1000000000) (hn : n0 ≤ W6.heap.size) :
    ∃ g cap W7, (Builtin.append_ #[23, 23] 23 #[r, .slice (some ⟨W6.heap.size, 0, none⟩) 1 1]).run Tryd.prog (W6.alloc (.cells #[.int .i64 e] 2)) = .ok (.slice (some ⟨g, 0, none⟩) (l.length + 1) cap) W7 ∧
      OwnI W7 n0 (.slice (some ⟨g, 0, none⟩) (l.length + 1) cap) (l ++ [e]) ∧ (W6.alloc (.cells #[.int .i64 e] 2)).grownBy W7 r.ownBlock := by
  obtain ⟨i0, hi0, hz0, hz1, hz2⟩ := info_parts info2
  obtain ⟨v', w', hrun, r1, r2, r3⟩ := run_append_own (P := Tryd.prog) (W6.alloc (.cells #[.int .i64 e] 2)) n0 23 23 2 i0 _ 1 8 Tryd.underlying23 hi0 hz0 hz1 hz2 rfl (by decide) r _ _ (World.ownsRow.alloc (own_later hown hb) _) ⟨W6.heap.size, 0, none⟩ 1 1 [.int .i64 e] rfl
    (fun j u hj => by
      have hB := Blk.new W6 2 #[.int .i64 e]
      match j, hj with
      | 0, hj => simp at hj; subst hj; exact hB.cell 0
      | j + 1, hj => simp at hj)
    (by simp [Value.oneCell']) (by unfold maxLen; omega) (by omega) (by simp; omega)
  have r1' : OwnI w' n0 v' (l ++ [e]) := by
    unfold OwnI
    rw [List.map_append, List.length_append]
    simpa using r1
  rcases r1.2 with ⟨rfl, h0⟩ | ⟨g, cap, cur, rfl, _⟩
  · omega
  · exact ⟨g, cap, w', hrun, r1', r2⟩
end Go.Proofs.YtjilfgkoibbcnaaDoor
