/- copies: the same replies in new lists. -/
import Derived.Test.YtjcgfbmkgfhnaaaDoorBase
import Derived.Deep.AppendLies
import Derived.OneCell
namespace Go.Proofs.YtjcgfbmkgfhnaaaDoor
open Go.RowKit Go.Shelf

/-- The cells of a list, one reply behind the other. -/
def Fo.cellsL : Fo → List Value
  | .nil => []
  | .cons k n s a cap sub rest => .int .i64 k :: .int .i64 n :: .string s.1 :: .slice a sub.len cap :: rest.cellsL
def Fo.append : Fo → Fo → Fo
  | .nil, t => t
  | .cons k n s a cap sub rest, t => .cons k n s a cap sub (rest.append t)
/-- Replies without the places of their lists. -/
def Fo.bare : Fo → Fo
  | .nil => .nil
  | .cons k n s _ _ sub rest => .cons k n s none 0 sub.bare rest.bare
def Fo.All (C : Option Addr → Fo → Prop) : Fo → Prop
  | .nil => True
  | .cons _ _ _ a _ sub rest => C a sub ∧ rest.All C

theorem Fo.append_nil : ∀ t : Fo, t.append .nil = t
  | .nil => rfl
  | .cons k n s a cap sub rest => by rw [Fo.append, Fo.append_nil rest]
theorem Fo.append_assoc : ∀ t u v : Fo, (t.append u).append v = t.append (u.append v)
  | .nil, _, _ => rfl
  | .cons k n s a cap sub rest, u, v => by rw [Fo.append, Fo.append, Fo.append_assoc rest u v]; rfl
theorem Fo.len_append : ∀ t u : Fo, (t.append u).len = t.len + u.len
  | .nil, u => by simp [Fo.append, Fo.len]
  | .cons k n s a cap sub rest, u => by simp only [Fo.append, Fo.len, Fo.len_append rest u]; omega
theorem Fo.cellsL_append : ∀ t u : Fo, (t.append u).cellsL = t.cellsL ++ u.cellsL
  | .nil, _ => rfl
  | .cons k n s a cap sub rest, u => by simp [Fo.append, Fo.cellsL, Fo.cellsL_append rest u]
theorem Fo.cellsL_length : ∀ t : Fo, t.cellsL.length = t.len * 4
  | .nil => rfl
  | .cons k n s a cap sub rest => by simp only [Fo.cellsL, Fo.len, List.length_cons, Fo.cellsL_length rest]; omega
theorem Fo.bare_append : ∀ t u : Fo, (t.append u).bare = t.bare.append u.bare
  | .nil, _ => rfl
  | .cons k n s a cap sub rest, u => by simp only [Fo.append, Fo.bare, Fo.bare_append rest u]
theorem Fo.len_bare : ∀ t : Fo, t.bare.len = t.len
  | .nil => rfl
  | .cons k n s a cap sub rest => by simp [Fo.bare, Fo.len, Fo.len_bare rest]
theorem Fo.depth_bare : ∀ t : Fo, t.bare.depth = t.depth
  | .nil => rfl
  | .cons k n s a cap sub rest => by simp [Fo.bare, Fo.depth, Fo.depth_bare rest, Fo.depth_bare sub]
theorem Fo.len_of_bare {t u : Fo} (h : t.bare = u.bare) : t.len = u.len := by rw [← t.len_bare, h, u.len_bare]
theorem Fo.depth_of_bare {t u : Fo} (h : t.bare = u.bare) : t.depth = u.depth := by rw [← t.depth_bare, h, u.depth_bare]
theorem Fo.all_append {C : Option Addr → Fo → Prop} : ∀ {t u : Fo}, t.All C → u.All C → (t.append u).All C
  | .nil, _, _, h => h
  | .cons .., _, ⟨h, g⟩, hu => ⟨h, Fo.all_append g hu⟩
theorem Fo.All.imp {C D : Option Addr → Fo → Prop} (h : ∀ a t, C a t → D a t) : ∀ {t : Fo}, t.All C → t.All D
  | .nil, _ => trivial
  | .cons .., ⟨g, k⟩ => ⟨h _ _ g, Fo.All.imp h k⟩

/-- A row that holds the cells of a list holds the list. -/
theorem cells_of_row {ok : Nat → Prop} {W : World} {g : Nat} {cur : Array Value} (hg : W.heap[g]? = some (Obj.cells cur 24 (0, 0))) : ∀ (t : Fo) (o : Nat), t.cellsL <+: cur.toList.drop o → t.All (IsFo ok W) → Cells ok W g o t
  | .nil, _, _, _ => trivial
  | .cons k n s a cap sub rest, o, h, ⟨hs, hr⟩ => by
    obtain ⟨tail, ht⟩ := h
    simp only [Fo.cellsL, List.cons_append] at ht
    have at' : ∀ i, cur[o + i]? = (cur.toList.drop o)[i]? := fun i => by rw [List.getElem?_drop, Array.getElem?_toList]
    refine ⟨⟨cur, hg, ?_, ?_, ?_, ?_⟩, ⟨hs.1, hs.2⟩, cells_of_row hg rest (o + 4) ⟨tail, ?_⟩ hr⟩
    · have := at' 0; rw [← ht] at this; exact this
    · rw [at' 1, ← ht]; rfl
    · rw [at' 2, ← ht]; rfl
    · rw [at' 3, ← ht]; rfl
    · rw [← List.drop_drop, ← ht]; rfl

/-- A row of a call's own that holds the cells of a list is that list. -/
theorem fo_of_own {ok : Nat → Prop} {W : World} {base : Nat} {v : Value} {t : Fo} (h : W.ownsRow base 24 4 v t.len t.cellsL) (hl : t.len ≤ 100000) (hok : ∀ k, v.ownBlock = some k → ok k) (hs : t.All (IsFo ok W)) :
    ∃ a cap, v = .slice a t.len cap ∧ IsFo ok W a t := by
  rcases h.2 with ⟨rfl, h0⟩ | ⟨g, cap, cur, rfl, hb, hg, hc, hm, hsz, htake⟩
  · obtain rfl := Fo.eq_nil h0
    exact ⟨none, 0, rfl, IsFo.nil _ _ _⟩
  · refine ⟨_, cap, rfl, hl, g, 0, fun _ => ⟨rfl, hok g rfl⟩, cells_of_row hg t 0 ?_ hs⟩
    rw [List.drop_zero, ← htake]
    exact List.take_prefix _ _

theorem cell_in {W : World} {b T : Nat} {c : Array Value} (o : Nat) (h : W.heap[b]? = some (Obj.cells c T (0, 0))) : W.cell? ⟨b, o, none⟩ = c[o]? := by
  simp [World.cell?, h]
theorem set_in {W : World} {b T : Nat} {c : Array Value} (o : Nat) (v : Value) (h : W.heap[b]? = some (Obj.cells c T (0, 0))) : (W.setCell ⟨b, o, none⟩ v).heap[b]? = some (Obj.cells (c.setIfInBounds o v) T (0, 0)) := by
  simp [World.setCell, Array.getElem?_modify, h]
theorem free_in {W : World} {b T : Nat} {c : Array Value} (o : Nat) (h : W.heap[b]? = some (Obj.cells c T (0, 0))) : W.frozen? ⟨b, o, none⟩ = false := by
  simp [World.frozen?, h]
theorem Tryd.info24 : (Tryd.prog.info? 24).map (fun i => (i.zero, i.size, i.bytes)) = some (some (.agg #[.int .i64 0, .int .i64 0, .string ⟨#[]⟩, .slice none 0 0]), 4, 56) := by kernel_rfl

def CopyPost (w : World) (t : Fo) (e : Ending) (w' : World) : Prop :=
  ∃ a cap t', e = .returned (.slice a t.len cap) ∧ t'.bare = t.bare ∧ IsFo (w.heap.size ≤ ·) w' a t' ∧ Below w.heap.size w w'
def Copied (t : Fo) : Prop := ∀ (a : Option Addr) (cap : Nat) (w : World), IsFo anyB w a t → Calls Tryd.prog 25 #[.slice a t.len cap] w (CopyPost w t)

/-- Blocks of a call's own, but one. -/
def But (n : Nat) (v : Value) (k : Nat) : Prop := n ≤ k ∧ some k ≠ v.ownBlock

/-- What holds at the head of a round. -/
structure Coll (w wr : World) (g o : Nat) (t : Fo) (v : Value) (j : Nat) (done rest : Fo) : Prop where
  bare : (done.append rest).bare = t.bare
  len : done.len = j
  sub : rest.Subs Copied
  src : Cells anyB w g (o + j * 4) rest
  own : wr.ownsRow w.heap.size 24 4 v j done.cellsL
  all : done.All (IsFo (But w.heap.size v) wr)
  below : Below w.heap.size w wr

theorem one_cells (k n : Int) (s : ByteArray) (a : Option Addr) (len cap : Nat) : ∀ u, u ∈ [Value.int .i64 k, .int .i64 n, .string s, .slice a len cap] → u.oneCell' = true := by
  intro u hu
  simp only [List.mem_cons, List.not_mem_nil, or_false] at hu
  rcases hu with rfl | rfl | rfl | rfl <;> rfl

/-- One reply more. -/
theorem Coll.step {w wr w2 w3 w4 : World} {g o : Nat} {t : Fo} {v : Value} {j gg cg : Nat} {done : Fo} {k n : Int} {s : Txt} {a a2 : Option Addr} {cap cap2 : Nat} {sub sub2 rest : Fo} {ob : Obj}
    (h : Coll w wr g o t v j done (.cons k n s a cap sub rest)) (h2 : Below wr.heap.size wr w2) (hw2 : wr.heap.size < w2.heap.size) (hs2 : IsFo (wr.heap.size + 1 ≤ ·) w2 a2 sub2) (hb2 : sub2.bare = sub.bare)
    (hw3 : w3 = w2.setCell ⟨wr.heap.size, 3, none⟩ (.slice a2 sub.len cap2)) (hown : w4.ownsRow w.heap.size 24 4 (.slice (some ⟨gg, 0, none⟩) (j + 1) cg) (j + 1) (done.cellsL ++ [.int .i64 k, .int .i64 n, .string s.1, .slice a2 sub.len cap2])) (hg : (w3.alloc ob).grownBy w4 v.ownBlock)
    (hat : v.ownBlock = some gg ∨ gg = w3.heap.size + 1) :
    Coll w w4 g o t (.slice (some ⟨gg, 0, none⟩) (j + 1) cg) (j + 1) (done.append (.cons k n s a2 cap2 sub2 .nil)) rest := by
  have hlt := h.own.lt
  have h23 : Below wr.heap.size wr w3 := by rw [hw3]; exact h2.setCell (p := ⟨wr.heap.size, 3, none⟩) (Nat.le_refl _) _
  have hsz3 : w3.heap.size = w2.heap.size := by rw [hw3]; simp [World.setCell]
  have hsl : sub2.len = sub.len := Fo.len_of_bare hb2
  have hz := h.below.size
  have hz2 := h2.size
  have hk : ∀ k, k < w3.heap.size → some k ≠ v.ownBlock → w4.heap[k]? = w3.heap[k]? := fun k hk hne =>
    (hg.block k (by simp; omega) hne).trans (Below.heap_alloc _ _ _ hk)
  have hbut : ∀ k, k < w3.heap.size → some k ≠ v.ownBlock → some k ≠ (Value.slice (some ⟨gg, 0, none⟩) (j + 1) cg).ownBlock := fun k hk hne => by
    show some k ≠ some gg
    rcases hat with e | e
    · rw [← e]; exact hne
    · intro e'; cases e'; omega
  refine ⟨?_, ?_, h.sub.2, ?_, ?_, ?_, ?_⟩
  · rw [← h.bare, Fo.append_assoc]
    simp only [Fo.bare_append, Fo.append, Fo.bare, hb2]
  · rw [Fo.len_append, h.len]; simp [Fo.len]
  · have := h.src.2.2
    have e : o + (j + 1) * 4 = o + j * 4 + 4 := by omega
    rw [e]; exact this
  · rw [Fo.cellsL_append]
    simp only [Fo.cellsL, hsl]; exact hown
  · refine Fo.all_append (h.all.imp fun a t ht => ?_) ⟨?_, trivial⟩
    · have h0 : IsFo (fun k => But w.heap.size v k ∧ k < wr.heap.size) wr a t := ht.weaken fun k hkl hok => ⟨hok, hkl⟩
      have h1 := h0.keep (B := w4) fun k hok hkw => by
        rw [hk k (by omega) hok.1.2, h23.block k hkw]
      exact h1.weaken fun k _ hok => ⟨hok.1.1, hbut k (by omega) hok.1.2⟩
    · have h0 : IsFo (fun k => wr.heap.size + 1 ≤ k ∧ k < w2.heap.size) w2 a2 sub2 := hs2.weaken fun k hkl hok => ⟨hok, hkl⟩
      have hne : ∀ k, wr.heap.size + 1 ≤ k → some k ≠ v.ownBlock := fun k hk e => by
        have := hlt k e.symm; omega
      have h1 := h0.keep (B := w4) fun k hok hkw => by
        rw [hk k (by omega) (hne k hok.1), hw3, Below.heap_setCell]
        show k ≠ wr.heap.size
        omega
      exact h1.weaken fun k _ hok => ⟨by omega, hbut k (by omega) (hne k hok.1)⟩
  · refine ((h.below.trans (h23.mono hz)).alloc (by omega) ob).grown hg (by simp; omega) fun k e => (hlt k e).1

theorem Coll.end {w wr : World} {g o : Nat} {t : Fo} {v : Value} {j : Nat} {done : Fo} (h : Coll w wr g o t v j done .nil) (hl : t.len ≤ 100000) : CopyPost w t (.returned v) wr := by
  have hb : done.bare = t.bare := by rw [← h.bare, Fo.append_nil]
  have hdl := Fo.len_of_bare hb
  have hj : j = done.len := h.len.symm
  have hown := h.own
  rw [hj] at hown
  obtain ⟨a, cap, rfl, hf⟩ := fo_of_own (ok := (w.heap.size ≤ ·)) hown (by omega) (fun k e => (h.own.lt k e).1) (h.all.imp fun a t ht => ht.weaken fun k _ hok => hok.1)
  exact ⟨a, cap, done, by rw [hdl], hb, hf, h.below⟩

set_option maxRecDepth 100000 in
set_option maxHeartbeats 2000000 in
theorem copies_step (t : Fo) (hsub : t.Subs Copied) : Copied t := by
  intro a cap w hf
  obtain ⟨hlen, g, o, ha, hc⟩ := hf
  go_enter Tryd.func25, Tryd.ntmps25
  go_wp2
  go_loopw [3, 8] (fun l i wr => ∃ (j : Nat) (v : Value) (done rest : Fo), i = .int .i64 j ∧ v = l ∧ j + rest.len = t.len ∧ Coll w wr g o t v j done rest) (fun _ i _ => t.len - (intOf i).toNat)
  case atStart => exact ⟨0, _, .nil, t, rfl, rfl, by simp, ⟨rfl, rfl, hsub, by simpa using hc, World.ownsRow_nil _ _ _ _, trivial, Below.refl _ _⟩⟩
  case round =>
    obtain ⟨j, v, done, rest, rfl, rfl, hl, hC⟩ := hrel
    cases rest with
    | nil =>
      have hl0 : j = t.len := by simpa [Fo.len] using hl
      go_wp2
      go_ret
      exact hC.end hlen
    | cons k m s a' cap' sub rest =>
      rw [Fo.len_cons] at hl
      obtain ⟨rfl, _⟩ := ha (by omega)
      have hsrc := hC.src.same (Same24.of_below hC.below)
      obtain ⟨⟨cc, hcc, c0, c1, c2, c3⟩, ⟨hsl, g', o', ha', hcs⟩, hcr⟩ := hsrc
      replace c0 := (cell_in _ hcc).trans c0
      replace c1 := (cell_in _ hcc).trans c1
      replace c2 := (cell_in _ hcc).trans c2
      replace c3 := (cell_in _ hcc).trans c3
      have hFs : IsFo anyB (wr.alloc (Obj.cells #[.int .i64 k, .int .i64 m, .string s.1, .slice a' sub.len cap'] 24)) a' sub := (show IsFo anyB wr a' sub from ⟨hsl, g', o', ha', hcs⟩).same ((Same24.refl _).alloc _)
      have HS := Lib.hid (hC.sub.1 a' cap' _ hFs)
      have hlt : j < t.len := by omega
      obtain ⟨i0, hi0, hz0, hz1, hz2⟩ := info_parts Tryd.info24
      clear hFs hcs hcr hcc
      go_wp2_with fail
      refine HS.out.mono ?_
      clear HS
      rintro e w2 ⟨a2, cap2, sub2, rfl, hb2, hs2, hbw2⟩
      have hx2 : w2.heap[wr.heap.size]? = some (Obj.cells #[.int .i64 k, .int .i64 m, .string s.1, .slice a' sub.len cap'] 24 (0, 0)) := (hbw2.block _ (by simp)).trans (heap_alloc_new _ _)
      have hB2 : Below wr.heap.size wr w2 := ((Below.refl _ _).alloc (Nat.le_refl _) _).trans (hbw2.mono (by simp))
      have hz2' : wr.heap.size < w2.heap.size := by have := hbw2.size; simp at this; omega
      have hs2' : IsFo (wr.heap.size + 1 ≤ ·) w2 a2 sub2 := by simpa using hs2
      have f3 := free_in 3 hx2
      have d3 : w2.cell? ⟨wr.heap.size, 3, none⟩ = some (.slice a' sub.len cap') := by rw [cell_in 3 hx2]; rfl
      obtain ⟨w3, hw3⟩ : ∃ w3, w2.setCell ⟨wr.heap.size, 3, none⟩ (.slice a2 sub.len cap2) = w3 := ⟨_, rfl⟩
      have hx3 : w3.heap[wr.heap.size]? = some (Obj.cells #[.int .i64 k, .int .i64 m, .string s.1, .slice a2 sub.len cap2] 24 (0, 0)) := by rw [← hw3]; exact set_in 3 _ hx2
      have e0 : w3.cell? ⟨wr.heap.size, 0, none⟩ = some (.int .i64 k) := by rw [cell_in 0 hx3]; rfl
      have e1 : w3.cell? ⟨wr.heap.size, 1, none⟩ = some (.int .i64 m) := by rw [cell_in 1 hx3]; rfl
      have e2 : w3.cell? ⟨wr.heap.size, 2, none⟩ = some (.string s.1) := by rw [cell_in 2 hx3]; rfl
      have e3 : w3.cell? ⟨wr.heap.size, 3, none⟩ = some (.slice a2 sub.len cap2) := by rw [cell_in 3 hx3]; rfl
      have hB3 : Below wr.heap.size wr w3 := by rw [← hw3]; exact hB2.setCell (p := ⟨wr.heap.size, 3, none⟩) (Nat.le_refl _) _
      have hO3 : w3.ownsRow w.heap.size 24 4 v j done.cellsL := by
        refine hC.own.kept (row := none) ⟨hB3.os, hB3.tape, hB3.output, hB3.size, fun q hq _ => hB3.block q hq⟩ ?_
        rcases hC.own.2 with ⟨rfl, _⟩ | ⟨_, _, _, rfl, _⟩
        · exact .inl rfl
        · exact .inr (by simp [Value.ownBlock])
      have HO := Lib.hid hO3
      have HW := Lib.hid hw3.symm
      have hsz3 : w.heap.size ≤ w3.heap.size := by have := hB3.size; have := hC.below.size; omega
      clear hbw2 hs2 hx2 hO3
      go_wp2_with (at_builtin; refine wpList_append_lies _ rfl _ _ 22 rfl w.heap.size 24 i0 _ 4 56 Tryd.underlying22 hi0 hz0 hz1 hz2 rfl (by omega) v j done.cellsL rfl (HO.out.alloc _) ⟨w3.heap.size, 0, none⟩ 1 1 [.int .i64 k, .int .i64 m, .string s.1, .slice a2 sub.len cap2] rfl rfl (World.news_of_block (cs := #[.int .i64 k, .int .i64 m, .string s.1, .slice a2 sub.len cap2]) (t := 24) (fr := (0, 0)) (heap_alloc_new _ _)) (one_cells _ _ _ _ _ _) (by omega) (by unfold maxLen; omega) (by omega) (by simp; omega) (w3.heap.size + 1) (by simp) ?_; intro gg cg w4 hown4 hgrow4 hat4 hlt4)
      go_roundw
      case rel => exact ⟨j + 1, _, _, rest, by go_num, rfl, by omega, hC.step hB2 hz2' hs2' hb2 HW.out hown4 hgrow4 hat4⟩
      case measure => simp [intOf]; omega

theorem copies_any (t : Fo) : Copied t := (Fo.subs_of copies_step t).1

end Go.Proofs.YtjcgfbmkgfhnaaaDoor
