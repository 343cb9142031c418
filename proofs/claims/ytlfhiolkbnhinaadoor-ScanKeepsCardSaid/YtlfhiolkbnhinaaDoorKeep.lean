/- What ScanKeeps holds beside the dict: all keys, and which of them were told. -/
import Derived.Test.YtlfhiolkbnhinaaDoorAll
import Derived.Test.YtlfhiolkbnhinaaDoorActed
import Derived.Maps.AppendAt
namespace Go.Proofs.YtlfhiolkbnhinaaDoor
open Go.RowKit Go.Shelf Go.Sort
attribute [local go_sem] Oper.semAt_some

def Own4 (W : World) (n0 : Nat) (v : Value) (bs : List Bool) : Prop := W.ownsRow n0 4 1 v bs.length (bs.map Value.bool)
theorem info4 : (Tryd.prog.info? 4).map (fun i => (i.zero, i.size, i.bytes)) = some (some (.bool false), 1, 1) := by kernel_rfl
theorem kept_row {e : TypeId} (he : ¬ (e = tyI.d ∨ e = tyI.t ∨ e = tyI.r)) {W W' : World} {n0 n : Nat} {v : Value} {xs : List Value} (h : W.ownsRow n0 e 1 v n xs) (g : Kept W W') : W'.ownsRow n0 e 1 v n xs := by
  refine ⟨h.1, ?_⟩
  rcases h.2 with hn | ⟨b, cap, cur, rfl, hb, hg, rest⟩
  · exact .inl hn
  · exact .inr ⟨b, cap, cur, rfl, hb, g b e cur hg he, rest⟩
theorem Own9.kept {W W' : World} {n0 : Nat} {v : Value} {l : List (List UInt8)} (h : Own9 W n0 v l) (g : Kept W W') : Own9 W' n0 v l := kept_row (by unfold tyI; decide) h g
theorem Own4.kept {W W' : World} {n0 : Nat} {v : Value} {l : List Bool} (h : Own4 W n0 v l) (g : Kept W W') : Own4 W' n0 v l := kept_row (by unfold tyI; decide) h g
theorem Own4.cell {W : World} {n0 : Nat} {v : Value} {l : List Bool} (h : Own4 W n0 v l) (k : Nat) (e : v.ownBlock = some k) : n0 ≤ k ∧ ∃ c, Blk W k 4 c := by
  refine ⟨(World.ownsRow.lt h k e).1, ?_⟩
  rcases h.2 with ⟨rfl, _⟩ | ⟨b, cap, cur, rfl, _, hg, _⟩
  · simp [Value.ownBlock] at e
  · obtain rfl : b = k := by simpa [Value.ownBlock] using e
    exact ⟨cur, hg⟩
theorem not_dict4 {W : World} {k : Nat} (h : ∃ c, Blk W k 4 c) : ¬ CellB tyI W k := by
  rintro ⟨t, c, ht, hb⟩
  obtain ⟨c', hc'⟩ := h
  have := Blk.ty hc' hb
  subst this
  revert ht
  unfold tyI
  decide
/-- A row of bools changes: a row of texts stays. -/
theorem Own9.bools {W W' : World} {n0 : Nat} {v : Value} {l : List (List UInt8)} {row : Option Nat} (h : Own9 W n0 v l) (g : W.grownBy W' row) (hr : ∀ k, row = some k → ∃ c, Blk W k 4 c) : Own9 W' n0 v l := by
  refine World.ownsRow.kept h g ?_
  rcases h.2 with ⟨rfl, _⟩ | ⟨b, cap, cur, rfl, _, hg, _⟩
  · exact .inl rfl
  · refine .inr (fun e => ?_)
    obtain ⟨c, hc⟩ := hr b e.symm
    have := Blk.ty (show Blk W b 9 cur from hg) hc
    revert this
    decide
theorem Own4.form {W : World} {n0 : Nat} {v : Value} {l : List Bool} (h : Own4 W n0 v l) : ∃ ua ucap, v = .slice ua l.length ucap ∧ ∀ t (ht : t < l.length), ∃ g, ua = some ⟨g, 0, none⟩ ∧ W.cell? ⟨g, t, none⟩ = some (.bool l[t]) ∧ W.frozen? ⟨g, t, none⟩ = false := by
  have hO := h
  rcases h.2 with ⟨h1, h2⟩ | ⟨g, cp, cur, h1, _, hgb, _⟩
  · exact ⟨none, 0, by rw [h2]; exact h1, fun t ht => by omega⟩
  · refine ⟨_, cp, h1, fun t ht => ⟨g, rfl, ?_, (show Blk W g 4 cur from hgb).free t⟩⟩
    unfold Own4 at hO
    rw [h1] at hO
    have := World.ownsRow.cellAt hO t (by omega)
    rw [this, List.getElem?_map, List.getElem?_eq_getElem ht]
    rfl
theorem Own4.store {W : World} {n0 g n cap : Nat} {l : List Bool} (h : Own4 W n0 (.slice (some ⟨g, 0, none⟩) n cap) l) (j : Nat) (b : Bool) : Own4 (W.setCell ⟨g, j, none⟩ (.bool b)) n0 (.slice (some ⟨g, 0, none⟩) n cap) (l.set j b) ∧ W.grownBy (W.setCell ⟨g, j, none⟩ (.bool b)) (some g) := by
  have hn : n = l.length := by
    rcases h.2 with ⟨h1, _⟩ | ⟨_, _, _, h1, _⟩
    · simp at h1
    · simp at h1; exact h1.2.1
  subst hn
  have h2 := World.ownsRow.stored h j (.bool b)
  refine ⟨?_, h2.2⟩
  unfold Own4
  rw [List.length_set, List.map_set]
  exact h2.1
theorem app_bool {W : World} {n0 : Nat} {r : Value} {l : List Bool} (h : Own4 W n0 r l) (hl : l.length ≤ 1000000) (hn : n0 ≤ W.heap.size) :
    ∃ v' W', (Builtin.append_ #[47, 47] 47 #[r, .slice (some ⟨W.heap.size, 0, none⟩) 1 1]).run Tryd.prog (W.alloc (.cells #[.bool false] 4)) = .ok v' W' ∧ Own4 W' n0 v' (l ++ [false]) ∧ (W.alloc (.cells #[.bool false] 4)).grownBy W' r.ownBlock := by
  obtain ⟨i0, hi0, hz0, hz1, hz2⟩ := info_parts info4
  obtain ⟨v', w', hrun, r1, r2, _, _⟩ := run_append_own_at (P := Tryd.prog) (W.alloc (.cells #[.bool false] 4)) n0 47 47 4 i0 (.bool false) 1 1 Tryd.underlying47 hi0 hz0 hz1 hz2 rfl (by decide) r _ _ (World.ownsRow.alloc h _) ⟨W.heap.size, 0, none⟩ 1 1 [.bool false] rfl
    (fun j u hj => by
      match j, hj with
      | 0, hj => simp at hj; subst hj; exact (Blk.new W 4 #[.bool false]).cell 0
      | j + 1, hj => simp at hj)
    (by simp [Value.oneCell']) (by unfold maxLen; omega) (by omega) (by simp; omega)
  refine ⟨v', w', hrun, ?_, r2⟩
  unfold Own4
  rw [List.map_append, List.length_append]
  exact r1

/-- The dict, all keys, which of them were told. -/
structure KB (w : World) (p seed : Nat) (ua tv : Value) (K : List (List UInt8)) (m : ByteArray → Option Int) (n : Sh) (bs : List Bool) (W : World) : Prop where
  dict : Alone w p seed m n W
  all : Own9 W w.heap.size ua K
  told : Own4 W w.heap.size tv bs
section
variable {w W W' : World} {p seed : Nat} {ua tv : Value} {K : List (List UInt8)} {m m' : ByteArray → Option Int} {n n' : Sh} {bs : List Bool}
theorem KB.later (h : KB w p seed ua tv K m n bs W) (hb : Below W.heap.size W W') : KB w p seed ua tv K m n bs W' := ⟨h.dict.later hb, h.all.below hb, h.told.kept (Kept.of hb)⟩
theorem KB.now (h : KB w p seed ua tv K m n bs W) (g : IsNow (fresh tyI w W) W p seed m' n' W') : KB w p seed ua tv K m' n' bs W' := ⟨h.dict.now g, h.all.kept (Kept.now g), h.told.kept (Kept.now g)⟩
theorem KB.acted (h : KB w p seed ua tv K m n bs W) (hd : Alone w p seed m' n' W') (g : Kept W W') : KB w p seed ua tv K m' n' bs W' := ⟨hd, h.all.kept g, h.told.kept g⟩
theorem KB.push (h : KB w p seed ua tv K m n bs W) (hl : bs.length ≤ 1000000) :
    ∃ v' W', (Builtin.append_ #[47, 47] 47 #[tv, .slice (some ⟨W.heap.size, 0, none⟩) 1 1]).run Tryd.prog (W.alloc (.cells #[.bool false] 4)) = .ok v' W' ∧ KB w p seed ua v' K m n (bs ++ [false]) W' := by
  obtain ⟨v', W', hrun, h1, h2⟩ := app_bool h.told hl h.dict.2.size
  have hb := (Below.refl W.heap.size W).alloc (Nat.le_refl _) (.cells #[.bool false] 4)
  have h3 := h.later hb
  have hc : ∀ k, tv.ownBlock = some k → w.heap.size ≤ k ∧ ∃ c, Blk (W.alloc (.cells #[.bool false] 4)) k 4 c := fun k e => h3.told.cell k e
  exact ⟨v', W', hrun, h3.dict.grown h2 (fun k e => ⟨(hc k e).1, not_dict4 (hc k e).2⟩), h3.all.bools h2 (fun k e => (hc k e).2), h1⟩
theorem KB.store {g c : Nat} (h : KB w p seed ua (.slice (some ⟨g, 0, none⟩) K.length c) K m n bs W) (j : Nat) (b : Bool) : KB w p seed ua (.slice (some ⟨g, 0, none⟩) K.length c) K m n (bs.set j b) (W.setCell ⟨g, j, none⟩ (.bool b)) := by
  obtain ⟨h1, h2⟩ := h.told.store j b
  have hc := h.told.cell g rfl
  exact ⟨h.dict.grown h2 (fun k e => by cases e; exact ⟨hc.1, not_dict4 hc.2⟩), h.all.bools h2 (fun k e => by cases e; exact hc.2), h1⟩
end
end Go.Proofs.YtlfhiolkbnhinaaDoor
