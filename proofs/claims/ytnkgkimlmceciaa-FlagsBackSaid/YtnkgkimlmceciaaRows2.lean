/- Rows of one's own: an append of one text, of one byte; a text out of bytes. -/
import Derived.Test.YtnkgkimlmceciaaNamed
import Derived.Laws.AppendOwn
import Derived.Lib.BufferRead
namespace Go.Proofs.Ytnkgkimlmceciaa
open Go.RowKit Go.Shelf
attribute [local go_sem] Oper.semAt_some

theorem infoP {o : Option TypeInfo} {z : Value} {n b : Nat} (h : o.map (fun i => (i.zero, i.size, i.bytes)) = some (some z, n, b)) : ∃ i, o = some i ∧ i.zero = some z ∧ i.size = n ∧ i.bytes = b := by
  cases o with
  | none => cases h
  | some i => simp at h; exact ⟨i, rfl, h.1, h.2.1, h.2.2⟩
theorem info9 : (Try.prog.info? 9).map (fun i => (i.zero, i.size, i.bytes)) = some (some (.string ⟨#[]⟩), 1, 16) := by kernel_rfl
theorem info5 : (Try.prog.info? 5).map (fun i => (i.zero, i.size, i.bytes)) = some (some (.int .u8 0), 1, 1) := by kernel_rfl
def cellsS (l : List ByteArray) : List Value := l.map fun b => .string b
def cells8 (l : List UInt8) : List Value := l.map fun b => .int .u8 b.toNat

theorem own_mono {w : World} {base base' : Nat} {v : Value} {e n : Nat} {xs : List Value} (h : w.ownsRow base e 1 v n xs) (hb : base' ≤ base) : w.ownsRow base' e 1 v n xs := by
  refine ⟨h.1, ?_⟩
  rcases h.2 with hn | ⟨g, cap, cur, rfl, hb', rest⟩
  · exact .inl hn
  · exact .inr ⟨g, cap, cur, rfl, Nat.le_trans hb hb', rest⟩
theorem own_later {W W6 : World} {e n0 k : Nat} {r : Value} {xs : List Value} (h : W.ownsRow n0 e 1 r k xs) (hb : Below W.heap.size W W6) : W6.ownsRow n0 e 1 r k xs := World.ownsRow.kept h (below_grown hb) (by
  rcases h.2 with ⟨rfl, _⟩ | ⟨g, cap, cur, rfl, _⟩
  · exact .inl rfl
  · exact .inr (by simp [Value.ownBlock]))
/-- What an append leaves below one's own row. -/
theorem grown_below {w W W7 : World} {n0 e k : Nat} {r : Value} {xs : List Value} (hb : Below w.heap.size w W) (hg : W.grownBy W7 r.ownBlock) (ho : W.ownsRow n0 e 1 r k xs) (hn : w.heap.size ≤ n0) : Below w.heap.size w W7 :=
  hb.grown hg hb.size fun k ek => by have := (World.ownsRow.lt ho k ek).1; omega

theorem app9 {W : World} {n0 k : Nat} {r : Value} {xs : List Value} (hown : W.ownsRow n0 9 1 r k xs) (hn : n0 ≤ W.heap.size) (hk : k ≤ 1000000000) (x : ByteArray) :
    ∃ g cap W7, (Builtin.append_ #[30, 30] 30 #[r, .slice (some ⟨W.heap.size, 0, none⟩) 1 1]).run Try.prog (W.alloc (.cells #[.string x] 9)) = .ok (.slice (some ⟨g, 0, none⟩) (k + 1) cap) W7 ∧
      W7.ownsRow n0 9 1 (.slice (some ⟨g, 0, none⟩) (k + 1) cap) (k + 1) (xs ++ [.string x]) ∧ (W.alloc (.cells #[.string x] 9)).grownBy W7 r.ownBlock := by
  obtain ⟨i0, hi0, hz0, hz1, hz2⟩ := infoP info9
  obtain ⟨v', w', hrun, r1, r2, r3⟩ := run_append_own (P := Try.prog) (W.alloc (.cells #[.string x] 9)) n0 30 30 9 i0 _ 1 16 Try.underlying30 hi0 hz0 hz1 hz2 rfl (by decide) r _ _ (World.ownsRow.alloc hown _) ⟨W.heap.size, 0, none⟩ 1 1 [.string x] rfl
    (fun j u hj => by
      have hB := Blk.new W 9 #[.string x]
      match j, hj with
      | 0, hj => simp at hj; subst hj; exact hB.cell 0
      | j + 1, hj => simp at hj)
    (by simp [Value.oneCell']) (by unfold maxLen; omega) (by omega) (by simp; omega)
  rcases r1.2 with ⟨rfl, h0⟩ | ⟨g, cap, cur, rfl, _⟩
  · omega
  · exact ⟨g, cap, w', hrun, r1, r2⟩
theorem app5 {W : World} {n0 k : Nat} {r : Value} {xs : List Value} (hown : W.ownsRow n0 5 1 r k xs) (hn : n0 ≤ W.heap.size) (hk : k ≤ 400000000000000 / 4) (x : Int) :
    ∃ g cap W7, (Builtin.append_ #[59, 59] 59 #[r, .slice (some ⟨W.heap.size, 0, none⟩) 1 1]).run Try.prog (W.alloc (.cells #[.int .u8 x] 5)) = .ok (.slice (some ⟨g, 0, none⟩) (k + 1) cap) W7 ∧
      W7.ownsRow n0 5 1 (.slice (some ⟨g, 0, none⟩) (k + 1) cap) (k + 1) (xs ++ [.int .u8 x]) ∧ (W.alloc (.cells #[.int .u8 x] 5)).grownBy W7 r.ownBlock := by
  obtain ⟨i0, hi0, hz0, hz1, hz2⟩ := infoP info5
  obtain ⟨v', w', hrun, r1, r2, r3⟩ := run_append_own (P := Try.prog) (W.alloc (.cells #[.int .u8 x] 5)) n0 59 59 5 i0 _ 1 1 Try.underlying59 hi0 hz0 hz1 hz2 rfl (by decide) r _ _ (World.ownsRow.alloc hown _) ⟨W.heap.size, 0, none⟩ 1 1 [.int .u8 x] rfl
    (fun j u hj => by
      have hB := Blk.new W 5 #[.int .u8 x]
      match j, hj with
      | 0, hj => simp at hj; subst hj; exact hB.cell 0
      | j + 1, hj => simp at hj)
    (by simp [Value.oneCell']) (by unfold maxLen; omega) (by omega) (by simp; omega)
  rcases r1.2 with ⟨rfl, h0⟩ | ⟨g, cap, cur, rfl, _⟩
  · omega
  · exact ⟨g, cap, w', hrun, r1, r2⟩

theorem row_text {W : World} {n0 : Nat} {r : Value} {l : List UInt8} (h : W.ownsRow n0 5 1 r l.length (cells8 l)) : (convert 59 9 r).run Try.prog W = .ok (.string ⟨l.toArray⟩) W := by
  rcases h.2 with ⟨rfl, h0⟩ | ⟨g, cap, cur, rfl, _, hg, _, _, _, ht⟩
  · have : l = [] := List.eq_nil_of_length_eq_zero h0
    subst this
    exact Lib.run_convert_nil_bytes (P := Try.prog) W 59 9 5 0 Try.underlying59 Try.underlying5 Try.underlying9
  · refine run_convert_bytes_back (P := Try.prog) W 59 9 5 ⟨g, 0, none⟩ cap l Try.underlying59 Try.underlying5 Try.underlying9 fun j hj => ?_
    rw [Addr.add_lit]
    have hB : Blk W g 5 cur := hg
    have e : (cells8 l)[j]? = some (.int .u8 (l[j].toNat : Int)) := by unfold cells8; rw [List.getElem?_map, List.getElem?_eq_getElem hj]; rfl
    rw [← ht, List.getElem?_take_of_lt (by omega), Array.getElem?_toList] at e
    have := hB.cell j
    rw [e] at this
    simpa using this
/-- A row of texts read. -/
theorem row_words {W : World} {n0 : Nat} {r : Value} {l : List ByteArray} (h : W.ownsRow n0 9 1 r l.length (cellsS l)) : Words W r l := by
  rcases h.2 with ⟨rfl, h0⟩ | ⟨g, cap, cur, rfl, _, hg, _, _, _, ht⟩
  · exact .inl ⟨List.eq_nil_of_length_eq_zero h0, rfl⟩
  · refine .inr ⟨g, cap, cur, rfl, hg, fun j x hx => ?_⟩
    have hj : j < l.length := (List.getElem?_eq_some_iff.1 hx).1
    have e : (cellsS l)[j]? = some (.string x) := by unfold cellsS; rw [List.getElem?_map, hx]; rfl
    rw [← ht, List.getElem?_take_of_lt (by omega), Array.getElem?_toList] at e
    exact e
theorem wpList_append_ran {P : Program} {w : World} {ops : Array Oper} {rest : List Oper} {o : Oper} {a : Act} {Q : Exit → Act → World → Prop} {v xv v' : Value} {w' : World} (hgd : o.guard = none) (s x : Operand) (t u : TypeId)
    (ho : o.op = Op.call { callee := Callee.builtin Builtin.append, args := #[s, x], argTypes := #[t, u] }) (hs : a.eval s = v) (hx : a.eval x = xv) (hrun : (Builtin.append_ #[t, u] o.type #[v, xv]).run P w = .ok v' w')
    (h : wpList P ops Q rest (a.put o.dst v') w') : wpList P ops Q (o :: rest) a w := by
  refine wpList_plain hgd fun K hK => ?_
  unfold Oper.wp
  simp [execOp, ho, resolve, invoke, builtin, hs, hx, hrun, Result.andThen]
  exact hK _ _ h
end Go.Proofs.Ytnkgkimlmceciaa
