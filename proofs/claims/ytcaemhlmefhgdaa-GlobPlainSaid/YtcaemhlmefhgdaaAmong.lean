/- among: the function value that is made of a class's characters. -/
import Derived.Test.YtcaemhlmefhgdaaClos
import Derived.Deep.RegionLaw
import Derived.OneCell
import Derived.Deep.AppendLies
namespace Go.Proofs.Ytcaemhlmefhgdaa
open Go.RowKit

/-- A slice of runes as it lies. -/
structure Runes (w : World) (a : Option Addr) (cs : List Int) : Prop where
  small : cs.length ≤ 100000
  at' : ∀ j, j < cs.length → ∃ g off, a = some ⟨g, off, none⟩ ∧ w.cell? ⟨g, off + j, none⟩ = some (.int .i32 (cs.getD j 0)) ∧ g < w.heap.size

theorem Runes.below {w w' : World} {a : Option Addr} {cs : List Int} (h : Runes w a cs) (hb : Below w.heap.size w w') : Runes w' a cs :=
  ⟨h.small, fun j hj => by
    obtain ⟨g, off, e, hc, hg⟩ := h.at' j hj
    exact ⟨g, off, e, (hb.cell (p := ⟨g, off + j, none⟩) hg).trans hc, Nat.lt_of_lt_of_le hg hb.size⟩⟩

theorem Runes.cells {w : World} {a : Option Addr} {cs : List Int} (h : Runes w a cs) (hp : 0 < cs.length) :
    ∃ g off, a = some ⟨g, off, none⟩ ∧ g < w.heap.size ∧ ∀ j, j < cs.length → w.cell? ⟨g, off + j, none⟩ = some (.int .i32 (cs.getD j 0)) := by
  obtain ⟨g, off, rfl, _, hg⟩ := h.at' 0 hp
  refine ⟨g, off, rfl, hg, fun j hj => ?_⟩
  obtain ⟨g', off', e, hc, _⟩ := h.at' j hj
  simp only [Option.some.injEq, Addr.mk.injEq] at e
  obtain ⟨rfl, rfl, _⟩ := e
  exact hc

/-- What a class's characters ask for: from, to. -/
def spansF : Nat → List Int → List (Int × Int)
  | 0, _ => []
  | _ + 1, [] => []
  | f + 1, a :: r => if 2 < (a :: r).length ∧ r.getD 0 0 = 45 then (a, r.getD 1 0) :: spansF f (r.drop 2) else (a, a) :: spansF f r
def spans (cs : List Int) : List (Int × Int) := spansF cs.length cs

theorem spansF_more : ∀ (f : Nat) (cs : List Int), cs.length ≤ f → spansF f cs = spansF cs.length cs := by
  intro f
  induction f using Nat.strongRecOn with
  | ind f ih =>
    intro cs h
    cases cs with
    | nil => cases f <;> rfl
    | cons a r =>
      cases f with
      | zero => simp at h
      | succ f =>
        simp at h
        simp only [List.length_cons, spansF]
        split
        · rw [ih f (by omega) (r.drop 2) (by simp; omega), ih r.length (by omega) (r.drop 2) (by simp)]
        · rw [ih f (by omega) r h]

theorem spans_three (a b c : Int) (r : List Int) (h : b = 45) : spans (a :: b :: c :: r) = (a, c) :: spans r := by
  subst h
  simp only [spans, List.length_cons, spansF]
  rw [if_pos (by simp)]
  simp only [List.getD, List.getElem?_cons_succ, List.getElem?_cons_zero, Option.getD_some, List.drop_succ_cons, List.drop_zero]
  rw [spansF_more _ r (by omega)]
theorem spans_one (a : Int) (r : List Int) (h : ¬ (2 < (a :: r).length ∧ r.getD 0 0 = 45)) : spans (a :: r) = (a, a) :: spans r := by
  simp only [spans, List.length_cons, spansF]
  rw [if_neg (by simpa using h)]

theorem Try.info50 : (Try.prog.info? 50).map (fun i => (i.zero, i.size, i.bytes)) = some (some .nilFunc, 1, 8) := by kernel_rfl

theorem Below.of_drew {B : Nat} {w w' : World} (h : Below B w.drew w') : Below B w w' := ⟨h.os, h.tape, h.output, h.size, h.block⟩

/-- span's function value. -/
def fv (b1 b2 : Nat) : Value := .func (.func 29) #[] #[.pointer (some ⟨b1, 0, none⟩), .pointer (some ⟨b2, 0, none⟩)]

/-- What is collected so far, behind k characters. -/
structure Coll (w0 : World) (cs : List Int) (k : Nat) (wr : World) (v : Value) (xs : List Value) (col : List (Int × Int)) : Prop where
  le : k ≤ cs.length
  part : spans cs = col ++ spans (cs.drop k)
  few : col.length ≤ k
  cell : wr.heap[w0.heap.size]? = some (Obj.cells #[v] 55 (0, 0))
  own : wr.ownsRow (w0.heap.size + 1) 50 1 v col.length xs
  all : ∀ j, j < col.length → SpanAt wr (xs.getD j undef) (col.getD j (0, 0)).1 (col.getD j (0, 0)).2
  below : Below w0.heap.size w0 wr
  size : w0.heap.size < wr.heap.size

theorem Same.grown {ok : Nat → Bool} {w w' : World} {row : Option Nat} (hg : w.grownBy w' row) (hr : ∀ k, row = some k → ∃ c T, w.heap[k]? = some (Obj.cells c T (0, 0)) ∧ ok T = false) : Same ok w w' := fun k c T hT hk => by
  rw [hg.block k (Array.getElem?_eq_some_iff.1 hk).1 fun e => ?_]
  · exact hk
  · obtain ⟨c', T', h', hf⟩ := hr k e.symm
    rw [hk] at h'
    simp only [Option.some.injEq, Obj.cells.injEq] at h'
    rw [h'.2.1] at hT
    simp [hT] at hf
theorem Same.setCell {ok : Nat → Bool} {w : World} {a : Addr} {c : Array Value} {T : Nat} (v : Value) (h : w.heap[a.block]? = some (Obj.cells c T (0, 0))) (hT : ok T = false) : Same ok w (w.setCell a v) := fun k c' T' hT' hk => by
  rw [Below.heap_setCell w a v k fun e => ?_]
  · exact hk
  · rw [e] at hk
    rw [hk] at h
    simp only [Option.some.injEq, Obj.cells.injEq] at h
    rw [h.2.1] at hT'
    simp [hT'] at hT
theorem own_type {w : World} {base e size n : Nat} {v : Value} {xs : List Value} (h : w.ownsRow base e size v n xs) : ∀ k, v.ownBlock = some k → base ≤ k ∧ ∃ c, w.heap[k]? = some (Obj.cells c e (0, 0)) := fun k hk => by
  refine ⟨(h.lt k hk).1, ?_⟩
  rcases h.2 with ⟨rfl, _⟩ | ⟨g, cap, cur, rfl, _, hg, _⟩
  · simp [Value.ownBlock] at hk
  · simp [Value.ownBlock] at hk
    subst hk
    exact ⟨cur, hg⟩
theorem grown_of_below {w w' : World} (h : Below w.heap.size w w') (row : Option Nat) : w.grownBy w' row := ⟨h.os, h.tape, h.output, h.size, fun k hk _ => h.block k hk⟩
theorem own_below {w w' : World} {base e size n : Nat} {v : Value} {xs : List Value} (h : w.ownsRow base e size v n xs) (hb : Below w.heap.size w w') : w'.ownsRow base e size v n xs :=
  h.kept (grown_of_below hb none) (by cases hv : v.ownBlock <;> simp)
theorem SpanAt.mono {w w' : World} {v : Value} {f t : Int} (h : SpanAt w v f t) (hs : Same ok21 w w') : SpanAt w' v f t := by
  obtain ⟨b1, b2, e, h1, h2⟩ := h
  exact ⟨b1, b2, e, hs _ _ _ rfl h1, hs _ _ _ rfl h2⟩
theorem getD_snoc_lt {α : Type} (l : List α) (x d : α) {j : Nat} (h : j < l.length) : (l ++ [x]).getD j d = l.getD j d := by
  simp [List.getD, List.getElem?_append_left h]
theorem getD_snoc_eq {α : Type} (l : List α) (x d : α) {j : Nat} (h : j = l.length) : (l ++ [x]).getD j d = x := by
  subst h; simp [List.getD]

theorem Coll.at1 {w0 wr w1 : World} {cs : List Int} {k : Nat} {v : Value} {xs : List Value} {col : List (Int × Int)} (hC : Coll w0 cs k wr v xs col) (hb1 : Below wr.heap.size wr w1) :
    w1.heap[w0.heap.size]? = some (Obj.cells #[v] 55 (0, 0)) := by rw [hb1.block _ hC.size]; exact hC.cell
theorem Coll.at2 {w0 wr w1 w2 : World} {cs : List Int} {k : Nat} {v : Value} {xs : List Value} {col : List (Int × Int)} (hC : Coll w0 cs k wr v xs col) (hb1 : Below wr.heap.size wr w1) (hg : w1.grownBy w2 v.ownBlock) :
    w2.heap[w0.heap.size]? = some (Obj.cells #[v] 55 (0, 0)) := by
  rw [hg.block _ (Array.getElem?_eq_some_iff.1 (hC.at1 hb1)).1 fun e => ?_]
  · exact hC.at1 hb1
  · have := (own_type (own_below hC.own hb1) _ e.symm).1; omega

/-- One function value more. w1: behind span; w2: behind append. -/
theorem Coll.step {w0 wr w1 w2 : World} {cs : List Int} {k k' : Nat} {v v' u : Value} {xs : List Value} {col : List (Int × Int)} {f t : Int} (hC : Coll w0 cs k wr v xs col) (hk : k < k') (hk' : k' ≤ cs.length)
    (hp : spans (cs.drop k) = (f, t) :: spans (cs.drop k')) (hu : SpanAt w1 u f t) (hb1 : Below wr.heap.size wr w1)
    (hown : w2.ownsRow (w0.heap.size + 1) 50 1 v' (col.length + 1) (xs ++ [u])) (hg : w1.grownBy w2 v.ownBlock) :
    Coll w0 cs k' (w2.setCell ⟨w0.heap.size, 0, none⟩ v') v' (xs ++ [u]) (col ++ [(f, t)]) := by
  have o1 := own_below hC.own hb1
  have s12 : Same ok21 w1 w2 := Same.grown hg fun k hk => by
    obtain ⟨_, c, h⟩ := own_type o1 k hk
    exact ⟨c, 50, h, rfl⟩
  have hA1 : w1.heap[w0.heap.size]? = some (Obj.cells #[v] 55 (0, 0)) := by rw [hb1.block _ hC.size]; exact hC.cell
  have hA2 : w2.heap[w0.heap.size]? = some (Obj.cells #[v] 55 (0, 0)) := by
    rw [hg.block _ (Array.getElem?_eq_some_iff.1 hA1).1 fun e => ?_]
    · exact hA1
    · have := (own_type o1 _ e.symm).1; omega
  have s2 : Same ok21 w2 (w2.setCell ⟨w0.heap.size, 0, none⟩ v') := Same.setCell v' hA2 rfl
  have hx : xs.length = col.length := by simpa using hC.own.1
  have hb2 : Below w0.heap.size w0 w2 := (hC.below.trans (hb1.mono (Nat.le_of_lt hC.size))).grown hg (by have := hC.size; have := hb1.size; omega) fun k hk => by have := (own_type o1 k hk).1; omega
  refine ⟨hk', by rw [hC.part, hp]; simp, by have := hC.few; simp; omega, ?_, by simpa using ownsRow_setCell_below hown (by simp) v', fun j hj => ?_, hb2.setCell (Nat.le_refl _) _, ?_⟩
  · exact one_setCell hA2
  · by_cases e : j < col.length
    · rw [getD_snoc_lt _ _ _ (by omega), getD_snoc_lt _ _ _ e]
      exact (hC.all j e).mono (((Same.of_below hb1).trans s12).trans s2)
    · have e : j = col.length := by simp at hj; omega
      rw [getD_snoc_eq _ _ _ (by omega), getD_snoc_eq _ _ _ e]
      exact hu.mono (s12.trans s2)
  · simp; have := hg.size; have := hb1.size; have := hC.size; omega

theorem drop_cons (cs : List Int) {k : Nat} (h : k < cs.length) : cs.drop k = cs.getD k 0 :: cs.drop (k + 1) := by
  rw [List.drop_eq_getElem_cons h]; simp [List.getD, List.getElem?_eq_getElem h]
theorem part_three {cs : List Int} {k : Nat} {x0 x1 x2 : Int} (h3 : k + 2 < cs.length) (h : (x1 == 45) = true) (E0 : Hid (cs.getD k 0 = x0)) (E1 : Hid (cs.getD (k + 1) 0 = x1)) (E2 : Hid (cs.getD (k + 2) 0 = x2)) :
    spans (cs.drop k) = (x0, x2) :: spans (cs.drop (k + 3)) := by
  rw [drop_cons cs (show k < cs.length by omega), drop_cons cs (show k + 1 < cs.length by omega), drop_cons cs (show k + 1 + 1 < cs.length by omega), spans_three _ _ _ _ (by rw [E1.out]; simpa using h), E0.out]
  rw [show k + 1 + 1 = k + 2 from rfl, E2.out]
theorem part_one {cs : List Int} {k : Nat} {x0 x1 : Int} (hlt : k < cs.length) (h : (x1 == 45) = false) (E0 : Hid (cs.getD k 0 = x0)) (E1 : Hid (cs.getD (k + 1) 0 = x1)) :
    spans (cs.drop k) = (x0, x0) :: spans (cs.drop (k + 1)) := by
  rw [drop_cons cs hlt, spans_one, E0.out]
  rintro ⟨_, h2⟩
  have : cs.getD (k + 1) 0 = 45 := by simpa [List.getD, List.getElem?_drop] using h2
  rw [E1.out] at this
  simp [this] at h
theorem part_last {cs : List Int} {k : Nat} {x0 : Int} (hlt : k < cs.length) (h3 : ¬ k + 2 < cs.length) (E0 : Hid (cs.getD k 0 = x0)) :
    spans (cs.drop k) = (x0, x0) :: spans (cs.drop (k + 1)) := by
  rw [drop_cons cs hlt, spans_one, E0.out]
  rintro ⟨h1, _⟩
  simp at h1
  omega
theorem room1 {w0 wr : World} {cs : List Int} {k : Nat} {v : Value} {xs : List Value} {col : List (Int × Int)} (hC : Coll w0 cs k wr v xs col) (hs : cs.length ≤ 100000) : col.length + 1 ≤ maxLen := by
  have := hC.few; have := hC.le; unfold maxLen; omega
theorem room2 {w0 wr : World} {cs : List Int} {k : Nat} {v : Value} {xs : List Value} {col : List (Int × Int)} (hC : Coll w0 cs k wr v xs col) (hs : cs.length ≤ 100000) : (col.length + 1) * 8 ≤ 140737488355328 := by
  have := hC.few; have := hC.le; omega
theorem room3 {w0 wr w1 : World} {cs : List Int} {k : Nat} {v : Value} {xs : List Value} {col : List (Int × Int)} (hC : Coll w0 cs k wr v xs col) (hb : Below wr.drew.heap.size wr.drew w1) (o : Obj) : w0.heap.size + 1 ≤ (w1.alloc o).heap.size := by
  have h1 := hC.size; have h2 := hb.size; simp at h2 ⊢; omega
theorem spanAt_alloc {w1 : World} {b1 b2 : Nat} {f t : Int} {o : Obj} (h1 : w1.heap[b1]? = some (Obj.cells #[.int .i32 f] 21 (0, 0))) (h2 : w1.heap[b2]? = some (Obj.cells #[.int .i32 t] 21 (0, 0))) : SpanAt (w1.alloc o) (fv b1 b2) f t :=
  ⟨b1, b2, rfl, by rw [Below.heap_alloc _ _ _ (Array.getElem?_eq_some_iff.1 h1).1]; exact h1, by rw [Below.heap_alloc _ _ _ (Array.getElem?_eq_some_iff.1 h2).1]; exact h2⟩

/-- What among has collected, as function values, wherever these blocks are as they are here. -/
theorem Coll.fns {w0 wr W : World} {cs : List Int} {k : Nat} {v : Value} {xs : List Value} {col : List (Int × Int)} (hC : Coll w0 cs k wr v xs col) (hs : cs.length ≤ 100000) (hW : Same okAll wr W) :
    ∃ a cap, v = .slice a col.length cap ∧ Fns ok21 W a col.length (col.map fun p => inSpan p.1 p.2) := by
  have hx : xs.length = col.length := by simpa using hC.own.1
  have hn : col.length ≤ 100000 := by have := hC.few; have := hC.le; omega
  have h21 : Same ok21 wr W := hW.weaken ok_box
  rcases hC.own.2 with ⟨rfl, h0⟩ | ⟨g, cap, cur, rfl, hb, hg, hcap, hm, hsz, htake⟩
  · exact ⟨none, 0, by rw [h0], by simp, hn, fun j hj => by omega⟩
  · refine ⟨_, cap, rfl, by simp, hn, fun j hj => ⟨g, xs.getD j undef, rfl, ?_, ?_, ?_⟩⟩
    · have hg' := hW g cur 50 rfl hg
      rw [cell_of_row W g j cur 50 (0, 0) hg', ← htake]
      simp [List.getD, hj]
      rw [Array.getElem?_eq_getElem (by omega)]
      simp
    · exact (Array.getElem?_eq_some_iff.1 (hW g cur 50 rfl hg)).1
    · have := ((hC.all j hj).mono h21).takes
      simpa [List.getD, List.getElem?_eq_getElem hj] using this

theorem Coll.takes {w0 wr : World} {cs : List Int} {k : Nat} {v : Value} {xs : List Value} {col : List (Int × Int)} (hC : Coll w0 cs k wr v xs col) (hs : cs.length ≤ 100000) (hk : ¬ k < cs.length) :
    Takes okAll wr (.func (.func 31) #[] #[.pointer (some ⟨w0.heap.size, 0, none⟩)]) (fun r => (spans cs).any fun p => inSpan p.1 p.2 r) := by
  refine ⟨31, _, rfl, fun _ _ => by kernel_rfl, fun W hW r => ?_⟩
  obtain ⟨a, cap, rfl, hf⟩ := hC.fns hs hW
  have hA := hW _ _ _ rfl hC.cell
  have he : spans cs = col := by
    rw [hC.part, List.drop_eq_nil_of_le (by omega)]; simp [spans, spansF]
  have := among1_any w0.heap.size a col.length cap _ r W hf (cell_of_one hA) (Array.getElem?_eq_some_iff.1 hA).1
  rw [he]
  simpa [List.any_map, Function.comp_def] using this

set_option maxHeartbeats 400000 in
theorem among_any (a : Option Addr) (cap : Nat) (cs : List Int) (w : World) (h : Runes w a cs) :
    Calls Try.prog 28 #[.slice a cs.length cap] w fun e w' => ∃ u, e = .returned u ∧ Takes okAll w' u (fun r => (spans cs).any fun p => inSpan p.1 p.2 r) ∧ Below w.heap.size w w' := by
  have hmf : ∀ (fn : Fn) (first cap : Array Value) (w : World), (Instr.makeFunc fn first cap).run Try.prog w = .ok (.func fn first cap) w := fun _ _ _ _ => rfl
  have hsm := h.small
  go_enter Try.func28, Try.ntmps28
  go_wp2
  go_loopw [4] (fun i wr => ∃ (k : Nat) (v : Value) (xs : List Value) (col : List (Int × Int)), i = .int .i64 k ∧ Coll w cs k wr v xs col) (fun i _ => cs.length - (intOf i).toNat)
  case atStart =>
    refine ⟨0, .slice none 0 0, [], [], rfl, ⟨Nat.zero_le _, rfl, Nat.zero_le _, heap_at rfl, World.ownsRow_nil _ _ _ _, fun j hj => by simp at hj, (Below.refl _ _).alloc (Nat.le_refl _) _, by simp⟩⟩
  case round =>
    obtain ⟨k, v, xs, col, rfl, hC⟩ := hrel
    by_cases hlt : k < cs.length
    · obtain ⟨g, off, rfl, hg, hcs⟩ := h.cells (by omega)
      have hcell : ∀ j, j < cs.length → wr.cell? ⟨g, off + j, none⟩ = some (.int .i32 (cs.getD j 0)) := fun j hj => (hC.below.cell (p := ⟨g, off + j, none⟩) hg).trans (hcs j hj)
      have hc := hcell k hlt
      have hA := cell_of_one hC.cell
      have hAf := free_of_one hC.cell
      obtain ⟨i0, hi0, hz0, hz1, hz2⟩ := info_parts Try.info50
      by_cases h3 : k + 2 < cs.length
      · have hc1 := hcell (k + 1) (by omega)
        have hc2 := hcell (k + 2) (by omega)
        clear hcell hcs
        generalize ex0 : cs.getD k 0 = x0 at *
        generalize ex1 : cs.getD (k + 1) 0 = x1 at *
        generalize ex2 : cs.getD (k + 2) 0 = x2 at *
        have E0 := Lib.hid ex0
        have E1 := Lib.hid ex1
        have E2 := Lib.hid ex2
        clear ex0 ex1 ex2
        by_cases h45 : (x1 == 45) = true
        · have p0 : (0 : Int) ≤ (k : Int) + 2 := by omega
          have p1 : ((k : Int) + 2).toNat = k + 2 := by omega
          go_wp2
          go_region_law (first
            | (refine step_append_lies _ (by rfl) _ _ _ (by rfl) (w.heap.size + 1) 50 i0 _ 1 8 Try.underlying55 hi0 hz0 hz1 hz2 rfl (by omega) v col.length xs (by rfl) ((own_below hC.own (Below.of_drew hb1)).alloc _)
                ⟨w1.heap.size, 0, none⟩ 1 1 [fv b1 b2] (by rfl) (by rfl) (World.news_of_block (cs := #[fv b1 b2]) (t := 50) (fr := (0, 0)) (heap_alloc_new _ _)) (by simp [fv, Value.oneCell'])
                (by omega) (room1 hC hsm) (room2 hC hsm) (room3 hC hb1 _) (w1.heap.size + 1) (by simp) ?_; intro gg cap w2 hown2 hgrow2 hat hlt2; have hA2 := cell_of_one (hC.at2 ((Below.of_drew hb1).alloc hb1.size _) hgrow2); have hA2f := free_of_one (hC.at2 ((Below.of_drew hb1).alloc hb1.size _) hgrow2))
            | (go_simp; go_at_call 25; refine (span_any _ _ _).mono ?_; rintro e w1 ⟨_, rfl, ⟨b1, b2, rfl, hs1, hs2⟩, hb1⟩; have hA1 := cell_of_one (hC.at1 (Below.of_drew hb1)); have hA1a := cell_of_one (hC.at1 ((Below.of_drew hb1).alloc hb1.size (Obj.cells #[fv b1 b2] 50))); unfold fv at hA1a))
          all_goals clear hA2 hA2f hA1 hA1a
          all_goals go_wp2
          all_goals go_roundw
          all_goals first
            | (case rel => exact ⟨k + 3, _, _, _, by go_num, hC.step (k' := k + 3) (by omega) (by omega) (part_three h3 h45 E0 E1 E2) (spanAt_alloc hs1 hs2) ((Below.of_drew hb1).alloc hb1.size _) hown2 hgrow2⟩)
            | (case measure => simp [intOf]; omega)
        · have h45' : (x1 == 45) = false := by simpa using h45
          clear h45
          go_wp2
          go_region_law (first
            | (refine step_append_lies _ (by rfl) _ _ _ (by rfl) (w.heap.size + 1) 50 i0 _ 1 8 Try.underlying55 hi0 hz0 hz1 hz2 rfl (by omega) v col.length xs (by rfl) ((own_below hC.own (Below.of_drew hb1)).alloc _)
                ⟨w1.heap.size, 0, none⟩ 1 1 [fv b1 b2] (by rfl) (by rfl) (World.news_of_block (cs := #[fv b1 b2]) (t := 50) (fr := (0, 0)) (heap_alloc_new _ _)) (by simp [fv, Value.oneCell'])
                (by omega) (room1 hC hsm) (room2 hC hsm) (room3 hC hb1 _) (w1.heap.size + 1) (by simp) ?_; intro gg cap w2 hown2 hgrow2 hat hlt2; have hA2 := cell_of_one (hC.at2 ((Below.of_drew hb1).alloc hb1.size _) hgrow2); have hA2f := free_of_one (hC.at2 ((Below.of_drew hb1).alloc hb1.size _) hgrow2))
            | (go_simp; go_at_call 25; refine (span_any _ _ _).mono ?_; rintro e w1 ⟨_, rfl, ⟨b1, b2, rfl, hs1, hs2⟩, hb1⟩; have hA1 := cell_of_one (hC.at1 (Below.of_drew hb1)); have hA1a := cell_of_one (hC.at1 ((Below.of_drew hb1).alloc hb1.size (Obj.cells #[fv b1 b2] 50))); unfold fv at hA1a))
          all_goals clear hA2 hA2f hA1 hA1a
          all_goals go_wp2
          all_goals go_roundw
          all_goals first
            | (case rel => exact ⟨k + 1, _, _, _, by go_num, hC.step (k' := k + 1) (by omega) (by omega) (part_one hlt h45' E0 E1) (spanAt_alloc hs1 hs2) ((Below.of_drew hb1).alloc hb1.size _) hown2 hgrow2⟩)
            | (case measure => simp [intOf]; omega)
      · clear hcell hcs
        generalize ex0 : cs.getD k 0 = x0 at *
        have E0 := Lib.hid ex0
        clear ex0
        · go_wp2
          go_region_law (first
            | (refine step_append_lies _ (by rfl) _ _ _ (by rfl) (w.heap.size + 1) 50 i0 _ 1 8 Try.underlying55 hi0 hz0 hz1 hz2 rfl (by omega) v col.length xs (by rfl) ((own_below hC.own (Below.of_drew hb1)).alloc _)
                ⟨w1.heap.size, 0, none⟩ 1 1 [fv b1 b2] (by rfl) (by rfl) (World.news_of_block (cs := #[fv b1 b2]) (t := 50) (fr := (0, 0)) (heap_alloc_new _ _)) (by simp [fv, Value.oneCell'])
                (by omega) (room1 hC hsm) (room2 hC hsm) (room3 hC hb1 _) (w1.heap.size + 1) (by simp) ?_; intro gg cap w2 hown2 hgrow2 hat hlt2; have hA2 := cell_of_one (hC.at2 ((Below.of_drew hb1).alloc hb1.size _) hgrow2); have hA2f := free_of_one (hC.at2 ((Below.of_drew hb1).alloc hb1.size _) hgrow2))
            | (go_simp; go_at_call 25; refine (span_any _ _ _).mono ?_; rintro e w1 ⟨_, rfl, ⟨b1, b2, rfl, hs1, hs2⟩, hb1⟩; have hA1 := cell_of_one (hC.at1 (Below.of_drew hb1)); have hA1a := cell_of_one (hC.at1 ((Below.of_drew hb1).alloc hb1.size (Obj.cells #[fv b1 b2] 50))); unfold fv at hA1a))
          all_goals clear hA2 hA2f hA1 hA1a
          all_goals go_wp2
          all_goals go_roundw
          all_goals first
            | (case rel => exact ⟨k + 1, _, _, _, by go_num, hC.step (k' := k + 1) (by omega) (by omega) (part_last hlt h3 E0) (spanAt_alloc hs1 hs2) ((Below.of_drew hb1).alloc hb1.size _) hown2 hgrow2⟩)
            | (case measure => simp [intOf]; omega)
    · go_wp2
      go_ret
      exact ⟨_, rfl, hC.takes hsm hlt, hC.below⟩
end Go.Proofs.Ytcaemhlmefhgdaa
