/- A way: of each level the last node ahead. -/
import Derived.Test.YtidiaomeahoapaaForth
import Derived.Deep.WholeRow
import Derived.Deep.MidRow
namespace Go.Proofs.Ytidiaomeahoapaa
open Go.RowKit Go.Shelf

/-- The last place up to a that is of a level. -/
def last (F : List Nd) (k : Nat) : Nat → Nat
  | 0 => 0
  | a + 1 => if k < lev F (a + 1) then a + 1 else last F k a
theorem last_spec (F : List Nd) (k : Nat) (h0 : k < lev F 0) : ∀ a, last F k a ≤ a ∧ k < lev F (last F k a) ∧ ∀ i, last F k a < i → i ≤ a → lev F i ≤ k := by
  intro a
  induction a with
  | zero => exact ⟨Nat.le_refl _, h0, fun i h1 h2 => by simp [last] at h1; omega⟩
  | succ a ih =>
    unfold last
    split
    · rename_i h; exact ⟨Nat.le_refl _, h, fun i h1 h2 => by omega⟩
    · rename_i h
      refine ⟨by omega, ih.2.1, fun i h1 h2 => ?_⟩
      by_cases e : i = a + 1
      · subst e; omega
      · exact ih.2.2 i h1 (by omega)
theorem last_unique {F : List Nd} {k a q : Nat} (h0 : k < lev F 0) (h1 : q ≤ a) (h2 : k < lev F q) (h3 : ∀ i, q < i → i ≤ a → lev F i ≤ k) : last F k a = q := by
  obtain ⟨t1, t2, t3⟩ := last_spec F k h0 a
  rcases Nat.lt_trichotomy (last F k a) q with h | h | h
  · have := t3 q h h1; omega
  · exact h
  · have := h3 _ h t1; omega
theorem last_zero (F : List Nd) (hp : ∀ i, i < F.length → 0 < lev F i) (a : Nat) (h : a < F.length) : last F 0 a = a :=
  last_unique (hp 0 (by omega)) (Nat.le_refl _) (hp a h) (fun i h1 h2 => by omega)

def wayC (F : List Nd) (a : Nat) : List Value := (List.range 32).flatMap fun k => (boxQ F k (last F k a)).toList
/-- A way's cells. -/
def wayA (F : List Nd) (a : Nat) : Array Value := (wayC F a).toArray
theorem flat3 (f : Nat → List Value) (hf : ∀ k, (f k).length = 3) : ∀ n, ((List.range n).flatMap f).length = n * 3 ∧ ∀ k i, k < n → i < 3 → ((List.range n).flatMap f)[k * 3 + i]? = (f k)[i]? := by
  intro n
  induction n with
  | zero => exact ⟨rfl, fun k i h _ => by omega⟩
  | succ n ih =>
    have hs : (List.range (n + 1)).flatMap f = (List.range n).flatMap f ++ f n := by
      rw [List.range_succ, List.flatMap_append]; simp
    rw [hs]
    refine ⟨by rw [List.length_append, ih.1, hf]; omega, fun k i hk hi => ?_⟩
    by_cases e : k = n
    · subst e
      rw [List.getElem?_append_right (by rw [ih.1]; omega), ih.1]
      congr 1
      omega
    · rw [List.getElem?_append_left (by rw [ih.1]; omega)]
      exact ih.2 k i (by omega) hi
theorem wayC_len (F : List Nd) (a : Nat) : (wayC F a).length = 96 := (flat3 _ (fun _ => rfl) 32).1
theorem wayA_size (F : List Nd) (a : Nat) : (wayA F a).size = 96 := by unfold wayA; simp [wayC_len]
theorem wayA_at (F : List Nd) (a k i : Nat) (hk : k < 32) (hi : i < 3) : (wayA F a)[k * 3 + i]? = (boxQ F k (last F k a))[i]? := by
  unfold wayA
  have := (flat3 (fun k => (boxQ F k (last F k a)).toList) (fun _ => rfl) 32).2 k i hk hi
  simpa [wayC] using this
theorem wayA_of {F : List Nd} {a : Nat} {A : Array Value} (hs : A.size = 96) (h : ∀ k i, k < 32 → i < 3 → A[k * 3 + i]? = (boxQ F k (last F k a))[i]?) : A = wayA F a := by
  apply Array.ext_getElem?
  intro j
  by_cases hj : j < 96
  · have h1 := h (j / 3) (j % 3) (by omega) (by omega)
    have h2 := wayA_at F a (j / 3) (j % 3) (by omega) (by omega)
    rw [show j / 3 * 3 + j % 3 = j by omega] at h1 h2
    rw [h1, h2]
  · rw [Array.getElem?_eq_none (by omega), Array.getElem?_eq_none (by rw [wayA_size]; omega)]
theorem way_cells (F : List Nd) (a k : Nat) (hk : k < 32) : (wayA F a)[k * 3]? = some (adr F (last F k a)) ∧ (wayA F a)[k * 3 + 1]? = some (.int .i64 ((last F k a : Int) - 1)) ∧ (wayA F a)[k * 3 + 2]? = some (.int .i64 k) :=
  ⟨wayA_at F a k 0 hk (by decide), wayA_at F a k 1 hk (by decide), wayA_at F a k 2 hk (by decide)⟩
theorem way_one (F : List Nd) (a : Nat) : (wayA F a).all (·.oneCell') = true := by
  rw [Array.all_eq_true]
  intro j hj
  rw [wayA_size] at hj
  have h2 := wayA_at F a (j / 3) (j % 3) (by omega) (by omega)
  rw [show j / 3 * 3 + j % 3 = j by omega, Array.getElem?_eq_getElem (by rw [wayA_size]; exact hj)] at h2
  have h3 : j % 3 = 0 ∨ j % 3 = 1 ∨ j % 3 = 2 := by omega
  rcases h3 with h3 | h3 | h3 <;> (rw [h3] at h2; simp [boxQ] at h2; rw [h2]; rfl)

/-- An array of 32 steps, all of them nought. -/
def zW : Array Value := ((List.range 32).flatMap fun _ => [Value.pointer none, .int .i64 0, .int .i64 0]).toArray
theorem info71 : (Try.prog.info? 71).map (fun i => (i.zero, i.size)) = some (some (.agg zW), 96) := by kernel_rfl
theorem zW_size : zW.size = 96 := by decide +kernel
theorem zero71 (w : World) : (zeroValue 71).run Try.prog w = .ok (.agg zW) w := (zero_of_info info71).1 w
theorem size71 : (Try.prog.info? 71).map (·.size) = some 96 := (zero_of_info info71).2
theorem under71 : Try.prog.underlying 71 = some (.array 32 69) := by kernel_rfl

/-- The whole of a way, by value, out of its block. -/
theorem load71 {W : World} {b : Nat} {A : Array Value} (h : Blk W b 71 A) (hs : A.size = 96) : (Instr.loadAt 71 (.pointer (some ⟨b, 0, none⟩))).run Try.prog W = .ok (.agg A) W := by
  simp only [Instr.loadAt, Instr.sureAddr, Sem.run_bind, Sem.run_pure, Result.andThen]
  exact run_loadVar_row _ _ 71 71 A (0, 0) _ h under71 rfl (by rw [size71, hs])
theorem loadVar71 {W : World} {b : Nat} {A : Array Value} (h : Blk W b 71 A) (hs : A.size = 96) : (loadVar 71 ⟨b, 0, none⟩).run Try.prog W = .ok (.agg A) W :=
  run_loadVar_row _ _ 71 71 A (0, 0) _ h under71 rfl (by rw [size71, hs])
theorem store71 {W : World} {b : Nat} {A B : Array Value} (h : Blk W b 71 A) (hs : A.size = 96) (hs' : B.size = 96) (ho : B.all (·.oneCell') = true) : (Instr.storeAt 71 (.pointer (some ⟨b, 0, none⟩)) (.agg B)).run Try.prog W = .ok () (W.setRow b B) := by
  simp only [Instr.storeAt, Instr.sureAddr, Sem.run_bind, Sem.run_pure, Result.andThen]
  exact run_storeVar_row _ _ 71 71 A B h (by rw [size71, hs']) (by rw [hs, hs']) ho
theorem Blk.setRow {W : World} {b t : Nat} {A : Array Value} (h : Blk W b t A) (B : Array Value) : Blk (W.setRow b B) b t B := by
  unfold Blk at *; simp [World.setRow, Array.getElem?_modify, h]
theorem setRow_other {W : World} {b k : Nat} (B : Array Value) (hne : k ≠ b) : (W.setRow b B).heap[k]? = W.heap[k]? := by
  simp [World.setRow, Array.getElem?_modify, Ne.symm hne]
theorem setRow_size (W : World) (b : Nat) (B : Array Value) : (W.setRow b B).heap.size = W.heap.size := by simp [World.setRow]
end Go.Proofs.Ytidiaomeahoapaa
